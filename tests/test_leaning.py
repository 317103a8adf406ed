"""Promises [60] and [61]: needless builds and lean books, with [7] and (G6) of [8]."""

import random

from rebuiltby.bookchanges import with_build, without_build
from rebuiltby.claimnumbers import base_of, right_of, wrong_of
from rebuiltby.comparing import are_alike
from rebuiltby.leaning import lean_book, needless_builds
from rebuiltby.rounds import sure_of
from tests.books import ALONE, BOOK, EARLY, EMPTY, LINKED, PARTIES, SOURCES, SPLIT, BookCase
from tests.books import random_book, source_names
from tests.test_comparing import SAID, TEXTS, TOLD, plain_difference
from tests.test_ordering import LOOSE


def plain_needless(book):
    """The indexes of the builds without each of which nothing parts the books, all of [7] looked at."""
    return tuple(k for k in range(len(book[3])) if plain_difference(book, without_build(book, k)) is None)


def plain_lean(book):
    """What remains of the book by the words of [60]."""
    for k in range(len(book[3]) - 1, -1, -1):
        less = book[:3] + (book[3][:k] + book[3][k + 1:],)
        if plain_difference(book, less) is None:
            book = less
    return book


def doubled(seed):
    """Some small book in which builds are likely to be needless, the same for each seed."""
    dice = random.Random(seed)
    book = random_book(seed, sources=3, parties=2, builds=6, files=3)
    builds = list(book[3])
    for _ in range(2 if builds else 0):
        party, compiler, source, parts, file = dice.choice(builds)
        way = dice.random()
        if way < 0.4 and compiler is None:
            build = (party, dice.choice(('f0', 'f1')), source, tuple('f0' for row in book[0] if row[0] == source for _ in row[4]), file)
        elif way < 0.7:
            build = (dice.choice(book[1])[0], compiler, source, parts, file)
        else:
            build = (party, dice.choice(('f0', 'f1', 'f2')), source, parts, file) if compiler else (party, None, source, (), file)
        if build not in builds:
            builds.insert(dice.randrange(len(builds) + 1), build)
    return book[:3] + (tuple(builds),)


class LeaningTest(BookCase):

    def test_example(self):
        told = [needless_builds(TOLD), lean_book(TOLD)[3] == SAID[:2] + SAID[3:], sure_of(TOLD, 'y', 'doc')]
        self.assert_same(told + [sure_of(lean_book(TOLD), 'y', 'doc')], [(1, 2), True, 2, 1])

    def test_books_without_needless_builds(self):
        for book in (ALONE, BOOK, SPLIT, EARLY, LINKED, EMPTY, (SOURCES, PARTIES, (), ())):
            self.assert_same([needless_builds(book), lean_book(book)], [(), book])
        self.assert_same([needless_builds(book=TOLD), lean_book(book=TOLD)], [(1, 2), lean_book(TOLD)])

    def test_any_book(self):
        # In one that is not calm: ann vouches for x herself.
        told = with_build(SPLIT, ('ann', 'x', 'cc', (), 'x'))
        self.assert_same([needless_builds(told), lean_book(told)], [(5,), SPLIT])
        # The second build shows what the first one shows, and parts with the third one if a compiler is steady.
        builds = (('cy', None, 'tcc', (), 'z'), ('cy', 'x', 'tcc', (), 'z'), ('ann', 'x', 'tcc', (), 'y'))
        loose = tuple(source[:3] + (False, ()) for source in SOURCES)
        for sources, needless in ((SOURCES, ()), (LOOSE[0], ()), (loose, (1,))):
            book = (sources, PARTIES, (), builds)
            self.assert_same(needless_builds(book), needless)
            self.assert_same(lean_book(book)[3], tuple(build for k, build in enumerate(builds) if k not in needless))
            book = (sources, PARTIES, (), builds[:2])
            self.assert_same([needless_builds(book), lean_book(book)[3]], [(1,), builds[:1]])

    def test_the_last_one_is_looked_at_first(self):
        # Each of the two shows what the other one does; the order tells which one goes.
        clash = (('ann', None, 'cc', (), 'x'), ('ann', None, 'doc', (), 'x'))
        told = (TEXTS, PARTIES[:1], (('cc', 'doc'),), clash + (('ann', None, 'cc', (), 'y'),))
        self.assert_same([needless_builds(told), lean_book(told)[3]], [(2,), clash])
        for builds, kept in ((SAID, SAID[:2] + SAID[3:]), (SAID[:1] + (SAID[2], SAID[1], SAID[3]), (SAID[0], SAID[2], SAID[3]))):
            book = TOLD[:3] + (builds,)
            self.assert_same(needless_builds(book), (1, 2))
            self.assert_same(lean_book(book), TOLD[:3] + (kept,))
        # After one is gone the other one is needed.
        self.assert_same(needless_builds(lean_book(TOLD)), ())

    def test_by_the_rules(self):
        many = {}
        for seed in range(70):
            book = doubled(seed)
            self.assert_same(needless_builds(book), plain_needless(book))
            self.assert_same(lean_book(book), plain_lean(book))
            many[len(needless_builds(book)), len(book[3]) - len(lean_book(book)[3])] = True
        self.assertGreater(len(many), 5)

    def test_consequences(self):
        for seed in range(100, 180):
            book = random_book(seed, sources=4, parties=3, builds=12, files=3)
            lean = lean_book(book)
            self.assertTrue(are_alike(book, lean) and are_alike(lean, book))
            self.assert_same([needless_builds(lean), lean_book(lean)], [(), lean])
            self.assertEqual([build for build in book[3] if build in lean[3]], list(lean[3]))
            self.assertEqual(base_of(book), base_of(lean))
            for file in ('f0', 'f1', 'g'):
                for source in source_names(book):
                    self.assertEqual(wrong_of(book, file, source), wrong_of(lean, file, source))
                    self.assertEqual(right_of(book, file, source), right_of(lean, file, source))

    def test_the_order_of_builds_does_not_matter(self):
        for seed in range(40):
            book = random_book(seed, sources=4, parties=3, builds=10, files=3)
            dice = random.Random(seed)
            order = list(range(len(book[3])))
            dice.shuffle(order)
            other = book[:3] + (tuple(book[3][k] for k in order),)
            self.assertEqual(sorted(order[n] for n in needless_builds(other)), list(needless_builds(book)))

    def test_a_build_by_which_a_wrong_number_grows(self):
        grown = 0
        for seed in range(60):
            book = random_book(seed, sources=3, parties=3, builds=9, files=3)
            for k in range(len(book[3])):
                less = without_build(book, k)
                if any(wrong_of(less, file, source) < wrong_of(book, file, source)
                       for file in ('f0', 'f1', 'f2') for source in source_names(book)):
                    self.assertNotIn(k, needless_builds(book))
                    grown += 1
        self.assertGreater(grown, 30)
