"""Promises [54] to [56], with [47] and what (G4) of [8] says of them."""

import random

from rebuiltby.bookchanges import with_weight
from rebuiltby.bookclasses import Book
from rebuiltby.bookparts import files_of
from rebuiltby.claimnumbers import wrong_of
from rebuiltby.closing import is_calm
from rebuiltby.errors import NotCalm
from rebuiltby.knowing import Knowledge
from rebuiltby.orderkinds import orders
from rebuiltby.rounds import full_book, sure_of
from rebuiltby.tablechecker import lets_table
from rebuiltby.unseen import Unseen, unseen_sets
from rebuiltby.worlds import World
from tests.books import ALL, ALONE, BOOK, EARLY, EMPTY, NO_NAMES, PARTIES, SOURCES, SPLIT, BookCase
from tests.books import party_names, plain_clashes, plain_facts, source_names, subsets
from tests.test_closing import NO_PARTY_SETS
from tests.test_leastsets import least, without
from tests.test_ordering import LOOSE, RING, RINGS
from tests.test_rounds import PARTS, plain_round, small_books
from tests.test_stepsmaking import follow

GIVEN = ('bob', 't', 'cc', ())
OBJECTS = (Book(), Book(*EARLY), Knowledge(EARLY))


def plain_full(book):
    """The full book by [7]."""
    while plain_round(book) != book:
        book = plain_round(book)
    return book


def claims_of(book):
    """All claims of files of the book."""
    return [(file, source) for file in files_of(book) for source in source_names(book)]


def hidden(book, full, file, source):
    """All sets of parties without which the others do not show the claim in the full book."""
    return [names for names in subsets(party_names(book)) if (file, source) not in plain_facts(full, without(book, names))]


class UnseenSetsTest(BookCase):

    def test_example(self):
        self.assert_same(unseen_sets(EARLY, 'x', 'cc'), (('ann', 'bob'),))

    def test_sets(self):
        self.assert_same(unseen_sets(book=ALONE, file='x', source='cc'), (('ann',),))
        self.assert_same([unseen_sets(EARLY, 't', 'tcc'), unseen_sets(EARLY, 't', 'cc')], [(('bob',),), ((),)])
        self.assert_same([unseen_sets(BOOK, 'x', 'cc'), unseen_sets(BOOK, 'y', 'cc')], [(('ann', 'bob'),), (('ann', 'bob'),)])
        self.assert_same(unseen_sets(PARTS, 'a', 'app'), (('ann', 'bob'),))
        heavy = with_weight(EARLY, 'ann', 10 ** 60)
        self.assert_same([unseen_sets(heavy, 'x', 'cc'), sure_of(heavy, 'x', 'cc')], [(('ann', 'bob'),), 10 ** 60 + 1])

    def test_by_the_rules(self):
        several = {}
        for book in small_books(range(120)):
            full = plain_full(book)
            for file, source in claims_of(book)[:14]:
                told = unseen_sets(book, file, source)
                self.assert_same(told, least(hidden(book, full, file, source)))
                weights = dict(book[1])
                self.assertEqual(min(sum(weights[name] for name in names) for names in told), sure_of(book, file, source))
                several[told] = True
        self.assertGreater(len(several), 6)


class UnseenCase(BookCase):

    def state(self, unseen):
        """All that can be asked of an Unseen."""
        return unseen.bad, unseen.book_now, unseen.table_now, len(unseen), [unseen[file] for file in ('x', 't', 'n0', 'n3', 'q')]


class UnseenTest(UnseenCase):

    def test_example(self):
        unseen = Unseen(EARLY, ('ann', 'bob'), 'x', 'cc')
        told = [unseen.give('bob', 't', 'cc', ()), unseen.give('bob', 'n0', 'cc', ()), unseen.give('cy', 'x', 'cc', ()), len(unseen)]
        self.assert_same(told, ['n0', 'x', 'x', 2])

    def test_a_new_one(self):
        for unseen in (Unseen(EARLY, ('ann', 'bob'), 'x', 'cc'), Unseen(book=EARLY, bad=('ann', 'bob'), file='x', source='cc')):
            self.assert_same((unseen.bad, unseen.book_now, unseen.table_now, len(unseen)), (('ann', 'bob'), EARLY, (), 0))
            self.assert_same([unseen['x'], unseen['t'], unseen['n0'], unseen['q']], [(), (), (), ()])
        for name in ('bad', 'book_now', 'table_now'):
            with self.assertRaises(AttributeError):
                setattr(unseen, name, ())

    def test_what_the_others_show(self):
        # In the full book bob shows all files but what only ann vouches for; n0 is given for cc by t.
        unseen = Unseen(ALONE[:3] + (ALONE[3][:1] + (('bob', None, 'tcc', (), 't'),),), ('ann',), 'x', 'cc')
        self.assert_same([unseen['t'], unseen['n0'], unseen['x']], [('tcc',), ('cc',), ()])
        self.assert_same([unseen.is_right('n0', 'cc'), unseen.is_right('n0', 'tcc'), unseen.is_right(source='tcc', file='t')],
                         [True, False, True])
        self.assert_same(unseen.table_now, (('t', 'tcc'),))
        self.assert_same([unseen.give('cy', 't', 'cc', ()), unseen.table_now], ['n0', (('n0', 'cc'), ('t', 'tcc'))])
        self.assert_same(unseen.book_now[3][2:], (('cy', 't', 'cc', (), 'n0'),))

    def test_builds_of_the_book(self):
        unseen = Unseen(BOOK, ALL, 'x', 'cc')
        for build in BOOK[3]:
            if build[1] is not None:
                self.assert_same(unseen.give(*build[:4]), build[4])
        self.assert_same([len(unseen), unseen.book_now], [0, BOOK])
        self.assert_same([unseen.give('ann', 'y', 'cc', ()), unseen.give('ann', 'y', 'cc', ()), len(unseen)], ['x', 'x', 1])
        self.assert_same(unseen.give(parts=(), source='cc', compiler='t', party='bob'), 'y')
        self.assert_same(unseen.book_now[3][5:], (('ann', 'y', 'cc', (), 'x'), ('bob', 't', 'cc', (), 'y')))

    def test_parts(self):
        unseen = Unseen(PARTS, ('ann', 'bob'), 'a', 'app')
        self.assert_same([unseen.give('cy', 'd', 'app', ('l',)), unseen.give('bob', 'd', 'lib', ()), len(unseen)], ['a', 'l', 2])
        for parts in ((), ('a',), ('c',), ('l', 'l'), ['l'], 'l', None, ((),), (None,), Book()):
            self.assert_not_usable('order', unseen.give, 'cy', 'd', 'app', parts)

    def test_led_to_the_end(self):
        ends = {}
        for book in small_books(range(300, 380)):
            full = full_book(book)
            for file, source in claims_of(book)[:10:3]:
                for bad in unseen_sets(book, file, source):
                    found = {self.lead(book, full, bad, (file, source), seed) for seed in range(3)}
                    self.assertEqual(found, {tuple(sorted(full[3], key=str))})
                    ends[len(full[3]) - len(book[3])] = True
        self.assertGreater(len(ends), 6)

    def lead(self, book, full, bad, claim, seed):
        """The builds in the end, ascending, when all orders are given in some order."""
        dice = random.Random(seed)
        unseen = Unseen(book, bad, *claim)
        others = without(book, bad)
        shown = plain_facts(full, others)
        answers = {build[:4]: build[4] for build in full[3]}
        while orders(unseen.book_now):
            order = dice.choice(orders(unseen.book_now))
            self.assert_same(unseen.give(*order), answers[order])
            now = unseen.book_now
            self.assert_same(now[3][-1], order + (answers[order],))
            self.assert_same(unseen.table_now, tuple(sorted(fact for fact in shown if fact[0] in files_of(now))))
            self.assert_same(len(unseen), len(now[3]) - len(book[3]))
            if dice.random() < 0.2:
                self.assert_same(lets_table(now, others, unseen.table_now), len(unseen.table_now))
                self.assertTrue(is_calm(now, party_names(now)))
                self.assertNotIn(claim, unseen.table_now)
                self.assert_same(World(now, bad, unseen.table_now).is_right(*claim), False)
        self.assert_same(unseen.book_now[3][:len(book[3])], book[3])
        self.assertFalse(unseen.is_right(*claim))
        self.assertNotIn(claim, plain_facts(unseen.book_now, others))
        return tuple(sorted(unseen.book_now[3], key=str))

    def test_answers_do_not_depend_on_what_was_asked(self):
        for book in [book for book in small_books(range(500, 540)) if book[3]]:
            full = full_book(book)
            file, source = claims_of(book)[0]
            dice = random.Random(2)
            rows = [build[:4] for build in full[3] if build[1] is not None]
            dice.shuffle(rows)
            one, other = Unseen(book, party_names(book), file, source), Unseen(book, party_names(book), file, source)
            facts = plain_facts(full, party_names(book))
            sources = {row[0]: row for row in book[0]}
            # Also those that nobody can order yet, as their compilers were not given.
            answers = {}
            for row in rows:
                fits = any((row[1], name) in facts and sources[row[2]][1] in sources[name][2] for name in sources)
                if fits and all(pair in facts for pair in zip(row[3], sources[row[2]][4])):
                    answers[row] = one.give(*row)
                else:
                    self.assert_not_usable('order', one.give, *row)
            for row in rows[::-1]:
                if row in answers:
                    self.assert_same(other.give(*row), answers[row])
            self.assertEqual(set(one.book_now[3]), set(other.book_now[3]))
            self.assertEqual(set(one.book_now[3]), set(full[3]))

    def test_a_file_that_was_not_given_yet(self):
        unseen = Unseen(EARLY, ('ann', 'bob'), 'x', 'cc')
        # n0 comes from t; it can be the compiler ahead of the build that gives it. x gives n2, too.
        self.assert_same([unseen.give('cy', 'n0', 'tcc', ()), len(unseen)], ['n2', 1])
        self.assert_same(unseen.book_now[3][3:], (('cy', 'n0', 'tcc', (), 'n2'),))
        self.assertEqual(plain_clashes(unseen.book_now, ALL), set())
        self.assert_same(lets_table(unseen.book_now, ('cy',), unseen.table_now), 0)

    def test_all_or_nobody_bad(self):
        unseen = Unseen(EARLY, ALL, 'x', 'cc')
        self.assert_same([unseen.table_now, unseen['x'], unseen.is_right('t', 'tcc')], [(), (), False])
        unseen = Unseen(EARLY, (), 'x', 'tcc')
        self.assert_same([unseen.table_now, unseen['x']], [(('t', 'tcc'), ('x', 'cc')), ('cc',)])
        self.assert_same([unseen.give(*GIVEN), unseen.table_now], ['n0', (('n0', 'cc'), ('t', 'tcc'), ('x', 'cc'))])


class ErrorsTest(UnseenCase):

    def test_books(self):
        for book in (LOOSE, RING, RINGS):
            self.assert_not_usable('book', unseen_sets, book, 'x', 'cc')
            self.assert_not_usable('book', unseen_sets, book, None, None)
            self.assert_not_usable('book', Unseen, book, ('ann',), 'x', 'cc')
            self.assert_not_usable('book', Unseen, book, None, None, None)
        for call in (lambda: unseen_sets(SPLIT, 'x', 'cc'), lambda: unseen_sets(SPLIT, 1, 1), lambda: Unseen(SPLIT, (), 'x', 'cc'),
                     lambda: Unseen(SPLIT, 1, 1, 1)):
            with self.assertRaises(NotCalm) as caught:
                call()
            self.assert_same(follow(self, SPLIT, caught.exception.steps), ((), ALL))

    def test_parameters(self):
        for thing in NO_PARTY_SETS + OBJECTS:
            self.assert_not_usable('bad', Unseen, EARLY, thing, None, None)
            self.assert_not_usable('bad', Unseen, EARLY, thing, 'x', 'cc')
        # A file of the full book alone is no file of the book.
        self.assertIn('n0', files_of(full_book(EARLY)))
        for thing in NO_NAMES + OBJECTS + ('n0', 'q', 'cc'):
            self.assert_not_usable('file', unseen_sets, EARLY, thing, None)
            self.assert_not_usable('file', unseen_sets, EARLY, thing, 'cc')
            self.assert_not_usable('file', Unseen, EARLY, ('ann',), thing, None)
            self.assert_not_usable('file', Unseen, EARLY, ALL, thing, 'cc')
            self.assert_not_usable('file', Unseen, EMPTY, (), thing, 'cc')
        for thing in NO_NAMES + OBJECTS + ('dd', 'x', 'ann', 'c'):
            self.assert_not_usable('source', unseen_sets, EARLY, 'x', thing)
            self.assert_not_usable('source', Unseen, EARLY, (), 'x', thing)

    def test_the_others_show_the_claim(self):
        for bad in ((), ('ann',), ('bob',), ('cy',), ('ann', 'cy'), ('bob', 'cy')):
            self.assert_not_usable('unseen', Unseen, EARLY, bad, 'x', 'cc')
        # In the book itself ann alone shows it; the full book counts.
        self.assert_same([wrong_of(EARLY, 'x', 'cc'), sure_of(EARLY, 'x', 'cc')], [1, 2])
        for book in small_books(range(700, 730)):
            full = full_book(book)
            for file, source in claims_of(book)[:6]:
                for bad in subsets(party_names(book)):
                    if bad in hidden(book, full, file, source):
                        self.assert_same(Unseen(book, bad, file, source).bad, bad)
                    else:
                        self.assert_not_usable('unseen', Unseen, book, bad, file, source)

    def test_no_orders(self):
        unseen = Unseen(EARLY, ('ann', 'bob'), 'x', 'cc')
        unseen.give(*GIVEN)
        before = self.state(unseen)
        for thing in NO_NAMES + OBJECTS + ('dan', 'q', 'n9', 'dd', EARLY[3], GIVEN):
            for at in range(4):
                row = GIVEN[:at] + (thing,) + GIVEN[at + 1:]
                if row != GIVEN:
                    self.assert_not_usable('order', unseen.give, *row)
            self.assert_not_usable('order', unseen.give, thing, thing, thing, thing)
        # No vouching, no file that is right for no compiler.
        self.assert_not_usable('order', unseen.give, 'ann', None, 'cc', ())
        self.assert_not_usable('order', unseen.give, 'bob', 'q', 'cc', ())
        self.assertEqual(self.state(unseen), before)
        # cy's build is in the book, but nobody shows that q is right.
        told = EARLY[:3] + (EARLY[3] + (('cy', 'q', 'cc', (), 'w'),),)
        self.assert_not_usable('order', Unseen(told, ALL, 'x', 'cc').give, 'cy', 'q', 'cc', ())

    def test_files_and_sources(self):
        unseen = Unseen(EARLY, ('ann', 'bob'), 'x', 'cc')
        for thing in NO_NAMES + OBJECTS:
            self.assert_not_usable('file', unseen.is_right, thing, thing)
            self.assert_not_usable('file', unseen.is_right, file=thing, source='cc')
            self.assert_not_usable('file', lambda: unseen[thing])
        for thing in NO_NAMES + OBJECTS + ('dd', 'x', 'ann', 'c'):
            self.assert_not_usable('source', unseen.is_right, 'q', thing)

    def test_iteration(self):
        unseen = Unseen(EARLY, ('ann', 'bob'), 'x', 'cc')
        for call in (iter, list, tuple, sorted, set):
            self.assertRaises(TypeError, call, unseen)
        with self.assertRaises(TypeError):
            for _ in unseen:
                pass

    def test_a_book_without_orders(self):
        book = (SOURCES, PARTIES[:1], (), (('ann', 'q', 'cc', (), 'x'),))
        self.assert_same([unseen_sets(book, 'x', 'cc'), unseen_sets(book, 'q', 'tcc')], [((),), ((),)])
        unseen = Unseen(book, (), 'x', 'cc')
        self.assert_same((unseen.book_now, unseen.table_now, len(unseen)), (book, (), 0))
        self.assert_not_usable('order', unseen.give, 'ann', 'q', 'cc', ())
