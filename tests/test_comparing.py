"""Promise [59], as far as it speaks of are_alike and difference, with [7] and (G6) of [8]."""

import itertools
import random

from rebuiltby.bookchanges import joined, with_build, with_unlike, with_weight, without_build
from rebuiltby.bookclasses import Book
from rebuiltby.claimnumbers import base_of, right_of, wrong_of
from rebuiltby.comparing import are_alike, difference
from tests.books import ALONE, BOOK, EARLY, EMPTY, LINKED, NO_NAMES, PARTIES, SOURCES, SPLIT, BookCase
from tests.books import party_names, plain_clashes, plain_facts, random_book, source_names, subsets
from tests.test_stepsmaking import follow

TEXTS = (('cc', 'c', ('c',), True, ()), ('doc', 'c', (), True, ()))
SAID = (
    ('ann', None, 'cc', (), 'x'), ('ann', None, 'doc', (), 'y'), ('ann', 'x', 'doc', (), 'y'),
    ('bob', None, 'cc', (), 'w'))
TOLD = (TEXTS, PARTIES[:2], (), SAID)


def plain_difference(book, other, most=3):
    """Trusted parties and supposed facts that part the books, all of them looked at, or None."""
    files = sorted({file for side in (book, other) for build in side[3] for file in (build[1], *build[3:4][0], build[4])
                    if file is not None}) + ['fresh']
    facts = [(file, source) for file in files for source in source_names(book)]
    for many in range(most + 1):
        for supposed in itertools.combinations(facts, many):
            for trusted in subsets(party_names(book)):
                calm = [not plain_clashes(side, trusted, supposed) for side in (book, other)]
                if calm[0] != calm[1]:
                    return trusted, supposed
                if calm[0] and plain_facts(book, trusted, supposed) != plain_facts(other, trusted, supposed):
                    return trusted, supposed
    return None


def changed(seed, book):
    """The book with some of its builds left out, doubled by another party, or with another file."""
    dice = random.Random(seed)
    builds = list(book[3])
    for _ in range(dice.choice((1, 1, 2))):
        if builds and dice.random() < 0.4:
            builds.pop(dice.randrange(len(builds)))
        elif builds:
            party, compiler, source, parts, file = dice.choice(builds)
            if dice.random() < 0.5:
                party = dice.choice(party_names(book))
            else:
                file = dice.choice(('f0', 'f1', 'f2'))
            if (party, compiler, source, parts, file) not in builds:
                builds.append((party, compiler, source, parts, file))
    dice.shuffle(builds)
    return book[:3] + (tuple(builds),)


class ComparingTest(BookCase):

    def assert_difference(self, book, other, told):
        """What is told is a difference by the words of [59]."""
        self.assertIs(type(told), tuple)
        side, trusted, supposed, what, steps, table = told
        self.assertIn(repr(side), ('0', '1'))
        self.assertIs(type(trusted), tuple)
        self.assertEqual(trusted, tuple(sorted(set(trusted) & set(party_names(book)))))
        self.assertEqual(supposed, tuple(sorted(set(supposed))))
        self.assertTrue(len(trusted) <= 2 and len(supposed) <= 3)
        self.assertLessEqual({source for _, source in supposed}, set(source_names(book)))
        shown, parties = follow(self, (book, other)[side], steps, supposed)
        self.assert_same(shown, what)
        self.assertLessEqual(set(parties), set(trusted))
        quiet = (other, book)[side]
        self.assertEqual(plain_clashes(quiet, trusted, supposed), set())
        self.assertEqual(plain_facts(quiet, trusted, table), set(table))
        self.assertEqual(plain_clashes(quiet, trusted, table), set())
        self.assertLessEqual(set(supposed), set(table))
        self.assert_same(table, tuple(sorted(table)))
        self.assertNotIn(what, table)

    def assert_parted(self, book, other):
        """The books do not show the same, in either order."""
        self.assert_same([are_alike(book, other), are_alike(other, book)], [False, False])
        self.assert_difference(book, other, difference(book, other))
        self.assert_difference(other, book, difference(other, book))

    def assert_alike(self, book, other):
        """The books show the same, in either order."""
        self.assert_same([are_alike(book, other), are_alike(other, book)], [True, True])
        self.assert_same([difference(book, other), difference(other, book)], [None, None])

    def test_examples(self):
        self.assert_same(are_alike(ALONE, EARLY), False)
        self.assert_parted(ALONE, EARLY)
        less = [without_build(TOLD, k) for k in range(4)]
        self.assert_same([are_alike(TOLD, book) for book in less], [False, True, True, False])
        self.assert_parted(TOLD, without_build(less[1], 1))
        self.assert_alike(less[1], less[2])

    def test_same_books(self):
        for book in (ALONE, BOOK, SPLIT, EARLY, LINKED, EMPTY, TOLD):
            self.assert_alike(book, book)
            self.assert_alike(book, book[:3] + (book[3][::-1],))
        self.assert_same(are_alike(other=ALONE, book=EARLY), False)
        self.assert_difference(EARLY, ALONE, difference(other=ALONE, book=EARLY))

    def test_one_build_less(self):
        self.assert_parted(ALONE, ALONE[:3] + ((('bob', None, 'cc', (), 'x'), ALONE[3][1]),))
        # If x were right for tcc, cy's build would show that it is right for cc, too.
        self.assert_parted(ALONE, without_build(ALONE, 1))
        self.assert_side(ALONE, without_build(ALONE, 1), 0)
        # Here there is no such source, and the build shows what it needs.
        alone = (SOURCES[:1],) + ALONE[1:]
        self.assert_alike(alone, without_build(alone, 1))

    def assert_side(self, book, other, side):
        """Only one of the books shows more, that of this side."""
        self.assert_same([difference(book, other)[0], difference(other, book)[0]], [side, 1 - side])

    def test_clashes_only(self):
        # Each shows nothing more than the other, but for what clashes.
        one = (SOURCES, PARTIES, (), (('ann', 'x', 'cc', (), 'x'), ('bob', 'x', 'cc', (), 'y')))
        self.assert_parted(one, without_build(one, 0))
        self.assert_parted(one, without_build(one, 1))
        # Both clash, each by one party of its own.
        clashing = (('ann', None, 'cc', (), 'x'), ('ann', 'x', 'cc', (), 'x'), ('ann', 'x', 'cc', (), 'y'))
        self.assert_alike((SOURCES, PARTIES[:1], (), clashing), (SOURCES, PARTIES[:1], (), clashing + (
            ('ann', None, 'tcc', (), 'q'),)))

    def test_what_only_clashes(self):
        # Nobody compiles c, so no build shows anything; but x and y cannot both be right for doc, nor for net.
        doc, net = ('doc', 'c', (), True, ()), ('net', 'c', (), True, ())
        builds = (('ann', 'x', 'doc', (), 'f'), ('bob', 'y', 'doc', (), 'g'))
        for sources in ((doc,), (doc, net)):
            for less in (builds[:1], builds[1:], ()):
                self.assert_parted((sources, PARTIES, (), builds), (sources, PARTIES, (), less))
            told = difference((sources, PARTIES, (), builds), (sources, PARTIES, (), ()))
            self.assert_same(told[:4], (0, ('ann', 'bob'), (('x', 'doc'), ('y', 'doc')), ()))
            self.assert_alike((sources, PARTIES, (), builds[:1]), (sources, PARTIES, (), builds[1:]))
        loose = (('doc', 'c', (), False, ()),)
        self.assert_alike((loose, PARTIES, (), builds), (loose, PARTIES, (), ()))
        # Only files for net can part the second books: those for doc do so by the other builds in both.
        other = (('ann', 'x', 'net', (), 'f'), ('ann', 'x', 'net', (), 'g'))
        self.assert_parted(((doc, net), PARTIES, (), other), ((doc, net), PARTIES, (), other[:1]))

    def test_a_clash_on_one_side_and_a_fact_on_the_other(self):
        told = (('cc', 'tcc'),)
        one = (SOURCES, PARTIES, told, (('ann', None, 'cc', (), 'z'),))
        other = (SOURCES, PARTIES, told, (('ann', None, 'cc', (), 'x'), ('ann', None, 'tcc', (), 'x')))
        self.assert_parted(one, other)
        self.assert_same([difference(one, other)[:4], difference(other, one)[:4]], [
            (1, ('ann',), (), ()), (0, ('ann',), (), ())])

    def test_three_supposed_facts(self):
        book, other = LINKED[:3] + (LINKED[3][3:4],), LINKED[:3] + ((),)
        self.assert_parted(book, other)
        told = difference(book, other)
        self.assertEqual((told[0], told[1], len(told[2])), (0, ('bob',), 3))

    def test_loose_sources(self):
        loose = (('cc', 'c', ('c',), False, ()), ('tcc', 'c', ('c',), True, ()))
        builds = (('ann', 'x', 'cc', (), 'x'), ('bob', 'y', 'cc', (), 'y'))
        self.assert_parted((loose, PARTIES, (), builds), (loose, PARTIES, (), builds[:1]))
        self.assert_parted((SOURCES, PARTIES, (), builds), (SOURCES, PARTIES, (), builds[:1]))

    def test_books_that_change_by_chance(self):
        told = {True: 0, False: 0}
        for seed in range(200):
            book = random_book(seed, sources=3, parties=2 + seed % 2, builds=8, files=3)
            other = changed(seed, book)
            found = plain_difference(book, other)
            self.assert_same(are_alike(book, other), found is None)
            if found is None:
                self.assert_alike(book, other)
            else:
                self.assert_parted(book, other)
            told[found is None] += 1
        self.assertTrue(min(told.values()) > 25, told)

    def test_alike_books_have_the_same_numbers(self):
        alike = 0
        for seed in range(120):
            book = random_book(seed, sources=4, parties=3, builds=10)
            for k in range(len(book[3])):
                other = without_build(book, k)
                if are_alike(book, other):
                    alike += 1
                    self.assertEqual(base_of(book), base_of(other))
                    for file, source in itertools.product(('f0', 'f1', 'g'), source_names(book)):
                        self.assertEqual(wrong_of(book, file, source), wrong_of(other, file, source))
                        self.assertEqual(right_of(book, file, source), right_of(other, file, source))
                else:
                    self.assert_difference(book, other, difference(book, other))
        self.assertGreater(alike, 50)

    def test_a_third_book(self):
        for seed in range(60):
            book = random_book(seed, sources=3, parties=2, builds=6, files=3)
            one, other = changed(seed, book), changed(seed + 1000, book)
            if are_alike(one, book) and are_alike(book, other):
                self.assert_alike(one, other)

    def test_errors(self):
        told = NO_NAMES + (
            'a', Book(), Book(*BOOK), list(BOOK), BOOK[:3], BOOK + ((),), EMPTY, LINKED, with_weight(BOOK, 'ann', 2),
            with_unlike(BOOK, 'cc', 'tcc'), with_build(BOOK, BOOK[3][0]), (SOURCES[:1], PARTIES, (), BOOK[3][:2]),
            (SOURCES, PARTIES[:2], (), ()), (SOURCES, PARTIES, (), list(BOOK[3])), (SOURCES, PARTIES, (), (None,)))
        for thing in told:
            self.assert_not_usable('other', are_alike, BOOK, thing)
            self.assert_not_usable('other', difference, BOOK, other=thing)
        # Neither is this book open to orders nor calm, which does not matter here.
        self.assert_alike(SPLIT, joined(SPLIT, SPLIT))
