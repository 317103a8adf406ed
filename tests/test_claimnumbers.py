"""Promises [34] and [35], with [6] and what [8] and [38] say of these numbers."""

import random
import unittest

from rebuiltby.bookchanges import joined, renamed, with_unlike, with_weight, without_build
from rebuiltby.bookclasses import Book
from rebuiltby.bookparts import files_of
from rebuiltby.claimnumbers import base_of, right_of, wrong_of
from tests.books import ALONE, BOOK, EMPTY, LINKED, NO_NAMES, SOURCES, SPLIT, BookCase
from tests.books import party_names, plain_clashes, plain_facts, random_book, source_names, subsets

FILES = ('f0', 'f1', 'f2', 'f3', 'f4', 'f5', 'g')


def plain_numbers(book, file, source):
    """The base, the wrong number and the right number by [6], with all sets of parties looked at."""
    base, wrong, right = [], [], []
    for bad in subsets(party_names(book)):
        others = tuple(name for name in party_names(book) if name not in bad)
        weight = sum(weight for name, weight in book[1] if name in bad)
        if not plain_clashes(book, others):
            base.append(weight)
            if (file, source) not in plain_facts(book, others):
                wrong.append(weight)
        if not plain_clashes(book, others, ((file, source),)):
            right.append(weight)
    return min(base), min(wrong), min(right)


def numbers(book, file, source):
    """The three numbers as the program tells them."""
    return base_of(book), wrong_of(book, file, source), right_of(book, file, source)


class NumbersTest(BookCase):

    def test_example(self):
        found = [wrong_of(ALONE, 'x', 'cc'), wrong_of(BOOK, 'x', 'cc'), right_of(BOOK, 'x', 'cc'), base_of(BOOK)]
        self.assert_same(found, [1, 2, 0, 0])
        self.assert_not_usable('source', wrong_of, BOOK, 'x', 'dd')

    def test_base(self):
        self.assert_same([base_of(ALONE), base_of(SPLIT), base_of(EMPTY)], [0, 1, 0])
        heavy = with_weight(with_weight(SPLIT, 'bob', 2), 'cy', 10 ** 60)
        self.assert_same([base_of(heavy), base_of(with_weight(heavy, 'ann', 10 ** 70))], [1, 2])
        self.assert_same(base_of(book=with_weight(with_weight(heavy, 'ann', 7), 'bob', 10 ** 60)), 7)

    def test_wrong(self):
        self.assert_same([wrong_of(BOOK, 't', 'tcc'), wrong_of(BOOK, 'y', 'cc'), wrong_of(BOOK, 'q', 'cc')], [1, 1, 0])
        # No trusted set that shows it is calm.
        self.assert_same([wrong_of(SPLIT, 'x', 'cc'), wrong_of(SPLIT, 'z', 'cc'), wrong_of(SPLIT, 'q', 'cc')], [1, 1, 1])
        self.assert_same(wrong_of(book=LINKED, file='a', source='app'), 4)
        heavy = with_weight(with_weight(BOOK, 'ann', 10 ** 60), 'cy', 3)
        self.assert_same(wrong_of(with_weight(heavy, 'bob', 2), 'x', 'cc'), 10 ** 60 + 2)

    def test_right(self):
        told = with_unlike(BOOK, 'cc', 'tcc')
        self.assert_same([right_of(told, 'x', 'tcc'), right_of(told, 'x', 'cc'), right_of(told, 'q', 'cc')], [2, 0, 0])
        # If x is right for tcc, too, then t for cc, and x and t gave different files for cc.
        self.assert_same([right_of(BOOK, 'x', 'tcc'), right_of(book=SPLIT, file='y', source='cc')], [1, 1])
        alone = (SOURCES, (), (('cc', 'tcc'),), ())
        self.assert_same(numbers(alone, 'x', 'cc'), (0, 0, 0))

    def test_all_sets_of_parties(self):
        several = set()
        for seed in range(120):
            book = random_book(seed, parties=5, builds=16)
            for file in FILES:
                for source in source_names(book):
                    told = numbers(book, file, source)
                    self.assert_same(told, plain_numbers(book, file, source))
                    several.add(told)
        self.assertGreater(len(several), 30)

    def test_errors(self):
        for call in (wrong_of, right_of):
            for thing in NO_NAMES + (Book(),):
                self.assert_not_usable('file', call, BOOK, thing, thing)
            for thing in NO_NAMES + ('dd', 'ann', 'x', 'c'):
                self.assert_not_usable('source', call, BOOK, 'x', thing)
                self.assert_not_usable('source', call, EMPTY, 'x', thing)


class ConsequencesTest(BookCase):

    def claims(self, book):
        """Some claims of the book."""
        return [(file, source) for file in ('f0', 'f1', 'g') for source in source_names(book)]

    def test_base_and_weights(self):
        for seed in range(60):
            book = random_book(seed)
            weight = sum(weight for _, weight in book[1])
            tenfold = (book[0], tuple((name, 10 * weight) for name, weight in book[1])) + book[2:]
            for claim in self.claims(book):
                base, wrong, right = numbers(book, *claim)
                self.assertEqual(base, min(wrong, right))
                self.assertLessEqual(max(wrong, right), weight)
                self.assertEqual(numbers(tenfold, *claim), (10 * base, 10 * wrong, 10 * right))

    def test_names_do_not_matter(self):
        for seed in range(40):
            book = random_book(seed)
            dice = random.Random(seed)
            tables = []
            for names in (party_names(book), source_names(book), files_of(book) + ('g',)):
                fresh = [f'z{k}' for k in range(len(names))]
                dice.shuffle(fresh)
                tables.append(tuple(zip(names, fresh)))
            told = renamed(book, parties=tables[0], sources=tables[1], files=tables[2])
            files, sources = dict(tables[2]), dict(tables[1])
            for file, source in self.claims(book):
                self.assertEqual(numbers(told, files.get(file, file), sources[source]), numbers(book, file, source))

    def test_no_number_falls_with_more_builds(self):
        for seed in range(60):
            book = random_book(seed)
            if book[3]:
                less = without_build(book, seed % len(book[3]))
                for claim in self.claims(book):
                    for one, two in zip(numbers(less, *claim), numbers(book, *claim)):
                        self.assertLessEqual(one, two)

    def test_joined_books(self):
        for seed in range(40):
            book = random_book(seed)
            one = book[:3] + (book[3][::2],)
            other = book[:2] + ((), book[3][1::2])
            for claim in self.claims(book):
                both = numbers(joined(one, other), *claim)
                for part in (one, other):
                    for less, more in zip(numbers(part, *claim), both):
                        self.assertLessEqual(less, more)


if __name__ == '__main__':
    unittest.main()
