"""Promises [47] and [51] to [53], with what [7] says of rounds, and (G5) of [8]."""

from rebuiltby.bookchanges import with_build, with_weight
from rebuiltby.bookclasses import Book
from rebuiltby.bookparts import files_of
from rebuiltby.claimnumbers import wrong_of
from rebuiltby.closing import facts_of
from rebuiltby.errors import NotCalm
from rebuiltby.orderkinds import orders
from rebuiltby.ordering import answered
from rebuiltby.rounds import after_rounds, full_book, rounds_to, sure_of
from tests.books import ALL, ALONE, BOOK, EARLY, EMPTY, NO_NAMES, NO_NUMBERS, PARTIES, SOURCES, SPLIT, BookCase
from tests.books import party_names, source_names
from tests.test_ordering import LOOSE, RING, RINGS, likely_books, open_books, plain_answer_of, plain_is_open
from tests.test_orderkinds import plain_orders
from tests.test_stepsmaking import follow

ODD_NUMBERS = NO_NUMBERS + (Book(), 'n0')
NOBODY = (SOURCES, (), (), ())
SMALL = {'sources': 3, 'parties': 3, 'builds': 6}
# lib is built by cy, and app with it; only ann and bob vouch.
PARTS = (
    (('app', 'c', (), False, ('lib',)), ('cc', 'c', ('c',), True, ()), ('lib', 'c', (), True, ())), PARTIES, (), (
        ('ann', None, 'cc', (), 'c'), ('bob', None, 'cc', (), 'd'), ('cy', 'c', 'lib', (), 'l'), ('ann', 'c', 'app', ('l',), 'a')))


def plain_round(book):
    """The book after one round by [7]."""
    for order in plain_orders(book):
        book = with_build(book, (*order, plain_answer_of(book, order)))
    return book


def small_books(seeds):
    """Books that are open to orders, with full books that are small enough to be looked at plainly."""
    books = open_books(seeds, **SMALL) + likely_books(seeds)
    return [book for book in books if len(full_book(book)[3]) < 50]


class RoundsTest(BookCase):

    def test_examples(self):
        self.assert_same([len(after_rounds(EARLY, 1)[3]), len(after_rounds(EARLY, 2)[3])], [14, 32])
        self.assert_same(len(full_book(EARLY)[3]), 32)
        self.assert_same([rounds_to(EARLY, 'x', 'cc', budget) for budget in (0, 1, 2)], [0, 2, None])
        self.assert_same([sure_of(EARLY, 'x', 'cc'), sure_of(ALONE, 'x', 'cc')], [2, 1])

    def test_rounds(self):
        self.assert_same(after_rounds(EARLY, 0), EARLY)
        self.assert_same(after_rounds(EARLY, 1), answered(EARLY, *orders(EARLY)))
        once = after_rounds(book=EARLY, n=1)
        self.assert_same(after_rounds(EARLY, 2), after_rounds(once, 1))
        for n in (2, 3, 40, 10 ** 60):
            self.assert_same(after_rounds(EARLY, n), full_book(EARLY))
        self.assert_same(full_book(book=once), full_book(EARLY))
        self.assert_same(orders(full_book(EARLY)), ())

    def test_without_builds_or_parties_or_sources(self):
        for book in (EMPTY, NOBODY, (SOURCES, PARTIES, (), ()), ((), PARTIES, (), ())):
            self.assert_same([after_rounds(book, 0), after_rounds(book, 5), full_book(book)], [book, book, book])
            for call in (lambda: rounds_to(book, 'x', 'cc', 0), lambda: sure_of(book, 'x', 'cc')):
                self.assert_not_usable('file', call)
        vouched = (SOURCES[1:], PARTIES[:1], (), (('ann', None, 'tcc', (), 't'),))
        self.assert_same(full_book(vouched)[3], vouched[3] + (('ann', 't', 'tcc', (), 'n0'), ('ann', 'n0', 'tcc', (), 'n0')))
        self.assert_same([sure_of(vouched, 't', 'tcc'), rounds_to(vouched, 't', 'tcc', 0)], [1, 0])

    def test_parts(self):
        self.assert_same(sure_of(PARTS, 'a', 'app'), 2)
        self.assert_same([rounds_to(PARTS, 'a', 'app', budget) for budget in (0, 1, 2)], [0, 1, None])
        heavy = with_weight(PARTS, 'bob', 10 ** 60)
        self.assert_same(sure_of(heavy, 'a', 'app'), 10 ** 60 + 1)
        self.assert_same(rounds_to(book=heavy, file='a', source='app', budget=10 ** 60), 1)
        self.assert_same(sure_of(book=PARTS, file='a', source='lib'), 0)
        self.assert_same(rounds_to(PARTS, 'l', 'cc', 0), None)

    def test_rounds_by_the_rules(self):
        several = {}
        for book in small_books(range(260)):
            now = book
            for n in range(9):
                self.assert_same(after_rounds(book, n), now)
                if not plain_orders(now):
                    break
                now = plain_round(now)
            self.assert_same(full_book(book), now)
            several[n] = several.get(n, 0) + 1
        self.assertGreater(len(several), 3)

    def test_numbers_by_the_rules(self):
        later = 0
        for book in small_books(range(400, 520)):
            full = full_book(book)
            for file in files_of(book)[:3]:
                for source in source_names(book):
                    self.assert_same(sure_of(book, file, source), wrong_of(full, file, source))
                    for budget in range(5):
                        told = rounds_to(book, file, source, budget)
                        if told is None:
                            self.assertLessEqual(sure_of(book, file, source), budget)
                        else:
                            self.assertGreater(wrong_of(after_rounds(book, told), file, source), budget)
                            if told:
                                self.assertLessEqual(wrong_of(after_rounds(book, told - 1), file, source), budget)
                                later += 1
        self.assertGreater(later, 20)

    def test_consequences(self):
        for book in small_books(range(600, 680)):
            full = full_book(book)
            self.assert_same(full[3][:len(book[3])], book[3])
            self.assertTrue(plain_is_open(full))
            self.assert_same(orders(full), ())
            shown = facts_of(book, party_names(book))
            for file in files_of(book):
                for source in source_names(book):
                    numbers = [wrong_of(after_rounds(book, n), file, source) for n in range(4)]
                    self.assertEqual(numbers, sorted(numbers))
                    self.assertEqual(sure_of(book, file, source) == 0, (file, source) not in shown)
                    self.assertLessEqual(numbers[-1], sure_of(book, file, source))
            right = {file for file, _ in facts_of(full, party_names(book))}
            for party, compiler, source, parts, file in full[3]:
                if compiler is not None and {compiler, *parts} <= right and (file, source) in facts_of(full, party_names(book)):
                    told = [name for name in party_names(book) if (name, compiler, source, parts, file) in full[3]]
                    self.assertIn(party, told)

    def test_builds_of_one_are_there_for_all(self):
        for book in (EARLY, BOOK, PARTS):
            full = full_book(book)
            for build in full[3]:
                if build[1] is not None:
                    for name in ALL:
                        self.assertIn((name, *build[1:]), full[3])


class ErrorsTest(BookCase):

    def calls(self, book):
        """Each function with this book, and with arguments that are all wrong."""
        return [lambda: after_rounds(book, None), lambda: full_book(book), lambda: rounds_to(book, 1, 2, -3),
                lambda: sure_of(book, None, None), lambda: after_rounds(book, 1), lambda: rounds_to(book, 'x', 'cc', 1)]

    def test_books(self):
        for book in (LOOSE, RING, RINGS):
            for call in self.calls(book):
                self.assert_not_usable('book', call)
        for call in self.calls(SPLIT):
            with self.assertRaises(NotCalm) as caught:
                call()
            self.assert_same(follow(self, SPLIT, caught.exception.steps), ((), ALL))

    def test_numbers(self):
        for thing in ODD_NUMBERS:
            self.assert_not_usable('n', after_rounds, EARLY, thing)
            self.assert_not_usable('n', after_rounds, EMPTY, n=thing)
            self.assert_not_usable('budget', rounds_to, EARLY, 'x', 'cc', thing)

    def test_files_and_sources(self):
        # A file of the full book alone is no file of the book.
        for thing in NO_NAMES + ('n0', 'q', Book()):
            self.assert_not_usable('file', rounds_to, EARLY, thing, None, None)
            self.assert_not_usable('file', rounds_to, EARLY, thing, 'cc', 0)
            self.assert_not_usable('file', sure_of, EARLY, thing, 'cc')
            self.assert_not_usable('file', sure_of, EARLY, thing, thing)
        for thing in NO_NAMES + ('dd', 'x', 'ann', Book()):
            self.assert_not_usable('source', rounds_to, EARLY, 'x', thing, None)
            self.assert_not_usable('source', rounds_to, EARLY, 'x', thing, 0)
            self.assert_not_usable('source', sure_of, EARLY, 'x', thing)
        self.assertIn('n0', files_of(full_book(EARLY)))
