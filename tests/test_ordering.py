"""Promises [47] and [49], with what [7] says of orders and answers, and [50]."""

import random

from rebuiltby.bookchanges import renamed, with_build
from rebuiltby.bookchecker import lets_book
from rebuiltby.bookclasses import Book
from rebuiltby.bookparts import files_of
from rebuiltby.closing import classes_of, facts_of
from rebuiltby.errors import NotCalm, NotUsable
from rebuiltby.orderkinds import is_decided, orders
from rebuiltby.ordering import answered, plain_answer
from tests.books import ALL, ALONE, BOOK, EARLY, EMPTY, LINKED, NO_NAMES, PARTIES, SOURCES, SPLIT, BookCase
from tests.books import party_names, plain_clashes, plain_facts, random_book, source_names
from tests.test_orderkinds import plain_decisions, plain_orders
from tests.test_stepsmaking import follow

LOOSE = ((('cc', 'c', ('c',), False, ()), ('tcc', 'c', ('c',), True, ())), PARTIES, (), SPLIT[3])
# app and lib are one class, by x, and app uses lib.
RING = ((('app', 'c', (), True, ('lib',)), ('cc', 'c', ('c',), True, ()), ('lib', 'c', (), False, ())), PARTIES, (), (
    ('ann', None, 'app', (), 'x'), ('bob', None, 'lib', (), 'x'), ('cy', None, 'cc', (), 'c')))
# Two classes that use each other: a and d, which uses b, and b and c, which uses a.
RINGS = (
    (('a', 'x', (), True, ()), ('b', 'x', (), True, ()), ('c', 'x', (), True, ('a',)), ('d', 'x', (), True, ('b',))),
    PARTIES, (), (
        ('ann', None, 'a', (), 'f'), ('bob', None, 'd', (), 'f'), ('ann', None, 'b', (), 'g'), ('cy', None, 'c', (), 'g')))
FIRST = ('bob', 't', 'cc', ())
SECOND = ('bob', 'n0', 'cc', ())
ODD = NO_NAMES + (Book(), Book(*BOOK), 'zed')


def plain_is_open(book):
    """Whether a book is open to orders by [7], with classes told by chains."""
    if plain_clashes(book, party_names(book)) or any(source[2] and not source[3] for source in book[0]):
        return False
    facts = plain_facts(book, party_names(book))
    near = {(s, t) for f, s in facts for g, t in facts if f == g} | {(s, s) for s in source_names(book)}
    step = {(s, u) for s, t in near for source in book[0] if source[0] == t for use in source[4] for v, u in near if v == use}
    while True:
        more = step | {(s, u) for s, t in step for t_again, u in step if t == t_again}
        if more == step:
            return not any((s, t) in near for s, t in step)
        step = more


def steady_book(seed, **most):
    """Some book, the same for each seed, in which all sources are steady."""
    book = random_book(seed, **most)
    return (tuple(row[:3] + (True,) + row[4:] for row in book[0]),) + book[1:]


def open_books(seeds, **most):
    """Those of these books that are open to orders."""
    return [book for book in [steady_book(seed, **most) for seed in seeds] if plain_is_open(book)]


def likely_book(seed):
    """Some book in which compilers are vouched for and built, the same for each seed; it may not be open."""
    dice = random.Random(seed)
    rows = (('cc', 'c', ('c',), True, ()), ('doc', 'c', (), False, ('lib',)), ('lib', 'c', (), True, ()),
            ('tcc', 'c', ('c',), True, ()))
    sources = rows if seed % 3 == 0 else rows[:1] + rows[3:] if seed % 3 == 1 else rows[:1] + rows[2:]
    said = [('ann', None, 'cc', (), 'cp'), ('bob', None, 'tcc', (), 'tp')]
    for _ in range(dice.randint(0, 5)):
        source = dice.choice(sources)
        party = dice.choice(PARTIES)[0]
        file = source[0][0] + dice.choice('pq')
        if dice.random() < 0.4:
            build = (party, None, source[0], (), file)
        else:
            parts = ('l' + dice.choice('pq'),) if source[4] else ()
            build = (party, dice.choice(('cp', 'cq', 'tp')), source[0], parts, file)
        if build not in said:
            said.append(build)
    return sources, PARTIES, (), tuple(said)


def likely_books(seeds):
    """Those of these books that are open to orders."""
    return [book for book in [likely_book(seed) for seed in seeds] if plain_is_open(book)]


def plain_answer_of(book, order):
    """The plain answer of an order by [7]."""
    decisions = plain_decisions(book, order)
    if decisions:
        [file] = decisions
        return file
    return [f'n{n}' for n in range(400) if f'n{n}' not in files_of(book)][0]


class OrderingTest(BookCase):

    def test_examples(self):
        self.assert_same(plain_answer(EARLY, *FIRST), 'n0')
        self.assert_same(answered(EARLY, FIRST, SECOND)[3][3:], (FIRST + ('n0',), SECOND + ('x',)))

    def test_answers(self):
        self.assert_same(plain_answer(book=EARLY, party='bob', compiler='x', source='cc', parts=()), 'x')
        self.assert_same([plain_answer(BOOK, 'ann', 't', 'cc', ()), plain_answer(BOOK, 'ann', 't', 'tcc', ())], ['y', 'n0'])
        # y is right for cc, so it decides as x does.
        self.assert_same(plain_answer(BOOK, 'bob', 'y', 'cc', ()), 'x')

    def test_fresh_names(self):
        names = (('n0',), ('n0', 'n1'), ('n1', 'n2'), ('n0', 'n2'), ('n0', 'n1', 'n2'))
        for told in names:
            book = EARLY
            for name in told:
                book = with_build(book, ('cy', None, 'cc', (), name))
            fresh = [f'n{n}' for n in range(7) if f'n{n}' not in told]
            self.assert_same(plain_answer(book, *FIRST), fresh[0])
            done = answered(book, FIRST, ('bob', 't', 'tcc', ()), ('bob', 'x', 'tcc', ()))
            self.assert_same([build[4] for build in done[3][-3:]], fresh[:3])
        # Compilers and parts are files of the book, too.
        book = with_build(EARLY, ('cy', 'n0', 'cc', (), 'n2'))
        self.assert_same(plain_answer(book, *FIRST), 'n1')
        book = (SOURCES, PARTIES, (), renamed(EARLY, files=(('x', 'n'), ('t', 'n00')))[3])
        self.assert_same(plain_answer(book, 'bob', 'n00', 'cc', ()), 'n0')

    def test_one_after_the_other(self):
        self.assert_same(answered(EARLY), EARLY)
        self.assert_same(answered(EARLY, FIRST), EARLY[:3] + (EARLY[3] + (FIRST + ('n0',),),))
        third = ('ann', 'n0', 'tcc', ())
        self.assert_same(answered(EARLY, FIRST, SECOND, third)[3][3:], (FIRST + ('n0',), SECOND + ('x',), third + ('n1',)))
        self.assert_same(answered(answered(EARLY, FIRST), SECOND), answered(EARLY, FIRST, SECOND))
        self.assert_same(answered(EMPTY), EMPTY)
        # The second one is decided by the first one.
        told = (FIRST, ('ann', 't', 'cc', ()), ('cy', 't', 'cc', ()))
        self.assert_same([build[4] for build in answered(EARLY, *told)[3][3:]], ['n0', 'n0', 'n0'])

    def test_no_orders(self):
        self.assert_not_usable('order', answered, EARLY, SECOND, told_at=0)
        self.assert_not_usable('order', answered, EARLY, FIRST, FIRST, told_at=1)
        self.assert_not_usable('order', answered, EARLY, FIRST, SECOND, FIRST, told_at=2)
        self.assert_not_usable('order', answered, EARLY, FIRST, SECOND, SECOND, SECOND, told_at=2)
        self.assert_not_usable('order', answered, BOOK, BOOK[3][1][:4], told_at=0)
        self.assert_not_usable('order', answered, EMPTY, FIRST, told_at=0)
        for thing in ODD + (BOOK[3], FIRST + ('n0',), FIRST[:3], list(FIRST), FIRST[:3] + ([],), FIRST[:3] + (None,),
                            FIRST[:3] + (('x',),), ('dan',) + FIRST[1:], ('bob', None, 'cc', ())):
            self.assert_not_usable('order', answered, EARLY, thing, told_at=0)
            self.assert_not_usable('order', answered, EARLY, FIRST, thing, thing, told_at=1)
            self.assert_not_usable('order', answered, EARLY, FIRST, SECOND, thing, told_at=2)

    def test_no_order_at_each_place(self):
        for thing in ODD:
            for at in range(4):
                order = FIRST[:at] + (thing,) + FIRST[at + 1:]
                if order != FIRST:
                    self.assert_not_usable('order', plain_answer, EARLY, *order)
                    self.assert_not_usable('order', answered, EARLY, order, told_at=0)
            self.assert_not_usable('order', plain_answer, EARLY, thing, thing, thing, thing)
        self.assert_not_usable('order', plain_answer, EARLY, *SECOND)
        self.assert_not_usable('order', plain_answer, EARLY, 'cy', 'x', 'cc', ())

    def test_books_that_are_not_open(self):
        for book in (LOOSE, RING, RINGS):
            lets_book(book)
            self.assert_not_usable('book', plain_answer, book, *FIRST)
            self.assert_not_usable('book', plain_answer, book, None, None, None, None)
            self.assert_not_usable('book', answered, book)
            self.assert_not_usable('book', answered, book, None)
        # A source that compiles nothing may be loose, and a class may use another one.
        self.assert_same(answered((RING[0], PARTIES, (), RING[3][1:])), (RING[0], PARTIES, (), RING[3][1:]))
        self.assert_same(answered((RINGS[0], PARTIES, (), RINGS[3][:3])), (RINGS[0], PARTIES, (), RINGS[3][:3]))

    def test_books_that_are_not_calm(self):
        for call in (lambda: plain_answer(SPLIT, *FIRST), lambda: plain_answer(SPLIT, 1, 2, 3, 4), lambda: answered(SPLIT),
                     lambda: answered(SPLIT, None)):
            with self.assertRaises(NotCalm) as caught:
                call()
            self.assertEqual(list(vars(caught.exception)), ['steps'])
            self.assert_same(follow(self, SPLIT, caught.exception.steps), ((), ALL))
        # The other error comes first.
        unlike = RING[:2] + ((('app', 'lib'),),) + RING[3:]
        self.assert_not_usable('book', answered, unlike)

    def test_which_books_are_open(self):
        told = {}
        for seed in range(300):
            book = random_book(seed, sources=4, parties=3, builds=8)
            try:
                answered(book)
                found = True
            except NotUsable:
                found = False
            except NotCalm as error:
                found = None
                self.assertEqual(follow(self, book, error.steps)[0], ())
            self.assertEqual(found is True, plain_is_open(book), book)
            told[found] = True
        self.assertEqual(len(told), 3)

    def test_answers_by_the_rules(self):
        fresh, decided = 0, 0
        for book in open_books(range(150), sources=4, parties=3, builds=8) + likely_books(range(40)):
            self.assert_same(orders(book), plain_orders(book))
            for order in orders(book)[:16]:
                told = plain_answer(book, *order)
                self.assert_same(told, plain_answer_of(book, order))
                self.assert_same(is_decided(book, *order), told in files_of(book))
                decided += told in files_of(book)
                fresh += told not in files_of(book)
        self.assertTrue(fresh > 50 and decided > 50, (fresh, decided))

    def test_several_orders_by_the_rules(self):
        for book in open_books(range(200), sources=4, parties=3, builds=8) + likely_books(range(40)):
            dice = random.Random(3)
            now, told = book, []
            for _ in range(6):
                if orders(now):
                    order = dice.choice(orders(now))
                    told.append(order)
                    now = with_build(now, (*order, plain_answer_of(now, order)))
            self.assert_same(answered(book, *told), now)


class ConsequencesTest(BookCase):

    def test_further_builds(self):
        for book in open_books(range(60), sources=4, parties=3, builds=8) + likely_books(range(40)):
            dice = random.Random(4)
            now = book
            for _ in range(5):
                if orders(now):
                    order = dice.choice(orders(now))
                    decided = is_decided(now, *order)
                    file = plain_answer(now, *order) if decided else dice.choice(('new', 'other', 'n5', 'more')) + str(len(now[3]))
                    after = with_build(now, (*order, file))
                    self.check(now, after, order, file)
                    now = after
            self.assertTrue(plain_is_open(now))

    def check(self, before, after, order, file):
        """What the consequences say of one further build."""
        everybody = party_names(before)
        self.assert_same(answered(after), after)
        self.assert_same(classes_of(before, everybody), classes_of(after, everybody))
        old = [fact for fact in facts_of(after, everybody) if fact[0] in files_of(before)]
        self.assert_same(tuple(old), facts_of(before, everybody))
        self.assertIn((file, order[2]), facts_of(after, everybody))
        for other in orders(before):
            if other != order and is_decided(before, *other):
                self.assert_same(plain_answer(after, *other), plain_answer(before, *other))

    def test_languages_that_nobody_compiles(self):
        for book in open_books(range(80), sources=4, parties=3, builds=8) + [LINKED, ALONE]:
            compiled = {language for source in book[0] for language in source[2]}
            rows = {source[0]: source[1] for source in book[0]}
            self.assertTrue(all(rows[order[2]] in compiled for order in orders(book)))
