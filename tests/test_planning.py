"""Promises [57] and [58]: plans, and their checker beside its words written out plainly."""

import random

from rebuiltby.bookchanges import with_build, with_weight
from rebuiltby.bookclasses import Book
from rebuiltby.bookparts import files_of
from rebuiltby.claimnumbers import wrong_of
from rebuiltby.errors import InvalidPaper, NotCalm
from rebuiltby.kinds import is_name
from rebuiltby.knowing import Knowledge
from rebuiltby.orderkinds import orders
from rebuiltby.planchecker import lets_plan
from rebuiltby.planning import plan_to
from rebuiltby.rounds import full_book, rounds_to, sure_of
from tests.books import ALL, ALONE, BOOK, EARLY, EMPTY, NO_NAMES, PARTIES, SOURCES, SPLIT, BookCase
from tests.books import mutated, party_names, source_names
from tests.test_ordering import LOOSE, RING, RINGS
from tests.test_orderkinds import plain_decisions, plain_orders
from tests.test_rounds import ODD_NUMBERS, PARTS, small_books
from tests.test_stepsmaking import follow
from tests.test_unseen import claims_of

FIRST = ('bob', 't', 'cc', (), 'new')
SECOND = ('bob', 'new', 'cc', (), 'x')
PLAN = (FIRST, SECOND)
IDLE = ('ann', 't', 'cc', (), 'new')
OBJECTS = (Book(), Book(*EARLY), Knowledge(EARLY))


def plain_added(book, builds):
    """The book to which the builds are added, each only if it begins with an order of the book as it is then."""
    for build in builds:
        if build[:4] in plain_orders(book):
            book = with_build(book, build)
    return book


def plain_plan_told(book, file, source, budget, thing):
    """How many builds the checker is to tell, or the fields of its error, by the words of [58]."""
    if type(thing) is not tuple or not all(type(build) is tuple and len(build) == 5 for build in thing):
        return 'shape', -1
    now = book
    for n, build in enumerate(thing):
        if build[:4] not in plain_orders(now):
            return 'order', n
        decided = plain_decisions(now, build[:4])
        if decided and build[4] not in list(decided) or not decided and (not is_name(build[4]) or build[4] in files_of(now)):
            return 'file', n
        now = with_build(now, build)
    if wrong_of(now, file, source) <= budget:
        return 'short', -1
    for n in range(len(thing)):
        if wrong_of(plain_added(book, thing[:n] + thing[n + 1:]), file, source) > budget:
            return 'idle', n
    return len(thing)


def told_of(book, file, source, budget, thing):
    """What the checker tells: how many builds, or the fields of its error."""
    try:
        return lets_plan(book, file, source, budget, thing)
    except InvalidPaper as error:
        return error.word, error.at


class PlanCase(BookCase):

    def check(self, book, file, source, budget):
        """The plan that is made is one, or there is none as the sure number says."""
        plan = plan_to(book, file, source, budget)
        if sure_of(book, file, source) <= budget:
            self.assert_same(plan, None)
        else:
            self.assertIs(type(plan), tuple)
            self.assert_same(lets_plan(book, file, source, budget, plan), len(plan))
            self.assert_same(plain_plan_told(book, file, source, budget, plan), len(plan))
        return plan


class PlanningTest(PlanCase):

    def test_examples(self):
        told = [lets_plan(EARLY, 'x', 'cc', 1, PLAN), plan_to(EARLY, 'x', 'cc', 0), plan_to(EARLY, 'x', 'cc', 2)]
        self.assert_same(told, [2, (), None])
        self.assert_paper('idle', 0, lets_plan, EARLY, 'x', 'cc', 1, (IDLE,) + PLAN)

    def test_plans(self):
        self.assertEqual(len(self.check(EARLY, 'x', 'cc', 1)), 2)
        self.assert_same([plan_to(book=BOOK, file='x', source='cc', budget=1), plan_to(ALONE, 'x', 'cc', 1)], [(), None])
        self.assert_same([plan_to(EARLY, 'x', 'cc', 10 ** 60), plan_to(EARLY, 't', 'tcc', 0), plan_to(EARLY, 't', 'cc', 0)],
                         [None, (), None])
        self.check(PARTS, 'a', 'app', 1)
        heavy = with_weight(EARLY, 'ann', 10 ** 60)
        for budget in (0, 10 ** 60 - 1, 10 ** 60, 10 ** 60 + 1):
            self.check(heavy, 'x', 'cc', budget)
        self.assertEqual(plan_to(heavy, 'x', 'cc', 10 ** 60 - 1), ())

    def test_names_that_are_taken(self):
        told = EARLY
        for name in ('n0', 'n1', 'n3'):
            told = with_build(told, ('cy', None, 'tcc', (), name))
        for budget in range(4):
            self.check(told, 'x', 'cc', budget)
            self.check(told, 'n0', 'tcc', budget)

    def test_budgets(self):
        lengths = {}
        for book in small_books(range(140)):
            for file, source in claims_of(book)[:9]:
                sure = sure_of(book, file, source)
                for budget in {0, max(sure - 2, 0), max(sure - 1, 0), sure, sure + 1, 10 ** 60}:
                    plan = self.check(book, file, source, budget)
                    if plan is not None:
                        self.assertEqual(plan == (), wrong_of(book, file, source) > budget)
                        self.assertEqual(rounds_to(book, file, source, budget) == 0, plan == ())
                        lengths[len(plan)] = lengths.get(len(plan), 0) + 1
        self.assertGreater(len(lengths), 3, lengths)

    def test_several_parties_and_steps(self):
        # Both bob and cy have to build, and each of them in two steps, with compilers of their own.
        builds = (('ann', None, 'cc', (), 'x'), ('bob', None, 'tcc', (), 't'), ('cy', None, 'ucc', (), 'u'), ('ann', 'x', 'cc', (), 'x'))
        sources = SOURCES + (('ucc', 'c', ('c',), True, ()),)
        book = (sources, PARTIES, (), builds)
        self.assert_same([wrong_of(book, 'x', 'cc'), sure_of(book, 'x', 'cc')], [1, 3])
        lengths = [len(self.check(book, 'x', 'cc', budget)) for budget in range(3)]
        self.assertTrue(lengths[0] == 0 < lengths[1] < lengths[2], lengths)
        self.assert_same(plan_to(book, 'x', 'cc', 3), None)

    def test_large_full_books(self):
        sources = (('app', 'c', (), False, ('lib',)), ('cc', 'c', ('c',), True, ()), ('lib', 'c', (), True, ()), ('tcc', 'c', ('c',), True, ()))
        builds = (('ann', None, 'cc', (), 'x'), ('bob', None, 'tcc', (), 't'), ('cy', 'x', 'lib', (), 'l'), ('cy', 'x', 'cc', (), 'x'),
                  ('bob', 't', 'app', ('l',), 'a'))
        book = (sources, PARTIES, (), builds)
        self.assertGreater(len(full_book(book)[3]), 70)
        for file, source in (('x', 'cc'), ('l', 'lib'), ('a', 'app'), ('t', 'tcc'), ('a', 'cc')):
            for budget in range(3):
                plan = plan_to(book, file, source, budget)
                if sure_of(book, file, source) > budget:
                    self.assert_same(lets_plan(book, file, source, budget, plan), len(plan))
                else:
                    self.assert_same(plan, None)
        every = full_book(book)[3][len(builds):]
        self.assert_paper('idle', 0, lets_plan, book, 'l', 'lib', 1, every)


class PlanCheckerTest(PlanCase):

    def assert_wrong(self, word, told_at, thing, book=EARLY, budget=1):
        """The checker raises InvalidPaper with these fields."""
        self.assert_paper(word, told_at, lets_plan, book, 'x', 'cc', budget, thing)
        self.assert_same(plain_plan_told(book, 'x', 'cc', budget, thing), (word, told_at))

    def test_accepted(self):
        self.assert_same(lets_plan(book=EARLY, file='x', source='cc', budget=1, thing=PLAN), 2)
        for name in ('n0', 'n5', 'a', 'cc', 'bob', 'zzzzzzzz'):
            plan = (FIRST[:4] + (name,), ('bob', name) + SECOND[2:])
            self.assert_same(lets_plan(EARLY, 'x', 'cc', 1, plan), 2)
        self.assert_same([lets_plan(EARLY, 'x', 'cc', 0, ()), lets_plan(BOOK, 'x', 'cc', 1, ())], [0, 0])

    def test_shape(self):
        for thing in NO_NAMES + OBJECTS + (FIRST, list(PLAN), (FIRST[:4],), (FIRST + ('x',),), (FIRST, list(SECOND)), (FIRST, None)):
            if thing != ():
                self.assert_wrong('shape', -1, thing)
        self.assert_wrong('shape', -1, (SECOND, FIRST, ('bob',)))

    def test_order(self):
        self.assert_wrong('order', 0, (SECOND, FIRST))
        self.assert_wrong('order', 1, (FIRST, FIRST))
        self.assert_wrong('order', 1, (FIRST, FIRST[:4] + ('other',)))
        self.assert_wrong('order', 1, (FIRST, ('bob', 'newer', 'cc', (), 'x')))
        self.assert_wrong('order', 0, (('cy', 'x', 'cc', (), 'x'),) + PLAN)
        for thing in NO_NAMES + OBJECTS + ('dan', 'q', 'dd', ('x',), (('x', 'cc'),)):
            for at in range(4):
                build = FIRST[:at] + (thing,) + FIRST[at + 1:]
                if build != FIRST:
                    self.assert_wrong('order', 0, (build, SECOND))
                    self.assert_wrong('order', 0, (build, (1, 2, 3, 4, 5)))
                build = SECOND[:at] + (thing,) + SECOND[at + 1:]
                if build != SECOND:
                    self.assert_wrong('order', 1, (FIRST, build))
            self.assert_wrong('order', 0, ((thing,) * 5,))

    def test_file(self):
        for thing in NO_NAMES + OBJECTS + ('x', 't'):
            self.assert_wrong('file', 0, (FIRST[:4] + (thing,), SECOND))
        # The second one is decided by cy's build.
        for thing in NO_NAMES + OBJECTS + ('t', 'new', 'n0', 'q', ('x',), ['x']):
            self.assert_wrong('file', 1, (FIRST, SECOND[:4] + (thing,)))
        # And so is the same order of another party, by the first one.
        self.assert_wrong('file', 1, (FIRST, IDLE[:4] + ('other',), SECOND))
        self.assert_wrong('file', 1, (FIRST, ('cy', 't', 'tcc', (), 'new'), SECOND))
        self.assert_wrong('idle', 1, (FIRST, ('cy', 't', 'tcc', (), 'other'), SECOND))

    def test_short(self):
        self.assert_wrong('short', -1, ())
        self.assert_wrong('short', -1, (FIRST,))
        self.assert_wrong('short', -1, (IDLE,))
        self.assert_wrong('short', -1, PLAN, budget=2)
        self.assert_wrong('short', -1, PLAN, budget=10 ** 60)
        self.assert_wrong('short', -1, (IDLE, SECOND))

    def test_idle(self):
        self.assert_wrong('idle', 0, PLAN, budget=0)
        self.assert_wrong('idle', 0, (IDLE,) + PLAN)
        self.assert_wrong('idle', 1, (FIRST, IDLE, SECOND))
        self.assert_wrong('idle', 2, PLAN + (IDLE,))
        # Without bob's first build that of cy has the same file, which is then a fresh one, and is as good.
        self.assert_wrong('idle', 0, (FIRST, ('cy', 't', 'cc', (), 'new'), SECOND))
        self.assert_same(lets_plan(EARLY, 'x', 'cc', 1, (('cy', 't', 'cc', (), 'new'), SECOND)), 2)
        # The book as it is shows enough: each build is idle.
        self.assert_wrong('idle', 0, (('ann', 't', 'cc', (), 'y'),), book=BOOK)
        # Without the first one the second one is no order, but the third one does.
        told = (('ann', 't', 'cc', (), 'new'), ('ann', 'new', 'tcc', (), 'more'))
        self.assert_wrong('idle', 0, told + PLAN)

    def test_the_first_one_is_told(self):
        self.assert_wrong('order', 0, (SECOND, FIRST[:4] + (None,)))
        self.assert_wrong('file', 0, (FIRST[:4] + (None,), FIRST))
        self.assert_wrong('order', 1, (IDLE, ('bob', 'q', 'cc', (), None)))
        self.assert_wrong('file', 1, (IDLE, FIRST[:4] + ('x',)))
        self.assert_wrong('short', -1, (IDLE, FIRST))

    def test_changed_plans(self):
        words = {}
        for book in small_books(range(300, 420)):
            dice = random.Random(len(words))
            claims = [claim for claim in claims_of(book) if sure_of(book, *claim) > wrong_of(book, *claim)] or claims_of(book)[:1]
            names = party_names(book) + source_names(book) + files_of(book) + ('n0', 'n1', 'new')
            for file, source in claims[:2]:
                budget = max(sure_of(book, file, source) - 1, 0)
                plan = plan_to(book, file, source, budget) or ()
                for _ in range(14):
                    thing = self.changed(dice, book, plan, names)
                    k = budget if dice.random() < 0.8 else dice.choice((0, budget + 1))
                    found = told_of(book, file, source, k, thing)
                    self.assert_same(found, plain_plan_told(book, file, source, k, thing))
                    words[type(found) is int or found[0]] = True
        self.assertEqual(words.keys(), {'shape', 'order', 'file', 'short', 'idle', True})

    def changed(self, dice, book, plan, names):
        """The plan with something changed, left out, put in, in another order or with other fresh names."""
        way = dice.random()
        if way < 0.3:
            return mutated(dice, plan, names)
        if way < 0.5 and plan:
            # Other fresh names in the place of n0, n1 and so on.
            fresh = {f'n{k}': f'{dice.choice("mn")}{k + dice.randrange(2)}' for k in range(9) if f'n{k}' not in files_of(book)}
            return tuple((party, fresh.get(compiler, compiler), source, tuple(fresh.get(part, part) for part in parts), fresh.get(file, file))
                         for party, compiler, source, parts, file in plan)
        if way < 0.6:
            rows = list(plan)
            dice.shuffle(rows)
            return tuple(rows)
        # Some orders more, with any file.
        k = dice.randrange(len(plan) + 1)
        now = book
        for build in plan[:k]:
            now = with_build(now, build)
        for _ in range(dice.choice((1, 1, 2))):
            if orders(now):
                order = dice.choice(orders(now))
                decided = sorted(plain_decisions(now, order)) if dice.random() < 0.9 else []
                now = with_build(now, order + (dice.choice(decided or ('m0', 'm1', 'm2', 'n0', 'n1')),))
        return now[3][len(book[3]):] + plan[k:]


class ErrorsTest(PlanCase):

    def test_books(self):
        for call in (plan_to, lambda *told: lets_plan(*told, PLAN), lambda *told: lets_plan(*told, None)):
            for book in (LOOSE, RING, RINGS):
                self.assert_not_usable('book', call, book, 'x', 'cc', 1)
                self.assert_not_usable('book', call, book, None, None, None)
            for told in (('x', 'cc', 1), (1, 1, True)):
                with self.assertRaises(NotCalm) as caught:
                    call(SPLIT, *told)
                self.assert_same(follow(self, SPLIT, caught.exception.steps), ((), ALL))

    def test_parameters(self):
        for call in (plan_to, lambda *told: lets_plan(*told, PLAN), lambda *told: lets_plan(*told, None)):
            for thing in NO_NAMES + OBJECTS + ('n0', 'q', 'new'):
                self.assert_not_usable('file', call, EARLY, thing, None, None)
                self.assert_not_usable('file', call, EARLY, thing, 'cc', 1)
                self.assert_not_usable('file', call, EMPTY, thing, 'cc', 1)
            for thing in NO_NAMES + OBJECTS + ('dd', 'x', 'ann'):
                self.assert_not_usable('source', call, EARLY, 'x', thing, None)
                self.assert_not_usable('source', call, EARLY, 'x', thing, 1)
            for thing in ODD_NUMBERS:
                self.assert_not_usable('budget', call, EARLY, 'x', 'cc', thing)

    def test_a_book_with_nothing_to_order(self):
        book = (SOURCES, PARTIES, (), (('cy', 'q', 'cc', (), 'w'),))
        self.assert_same([plan_to(book, 'w', 'cc', 0), plan_to(book, 'q', 'cc', 0)], [None, None])
        self.assert_paper('short', -1, lets_plan, book, 'w', 'cc', 0, ())
        self.assert_paper('order', 0, lets_plan, book, 'w', 'cc', 0, (('ann', 'q', 'cc', (), 'w'),))
