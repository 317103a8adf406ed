"""Promises [39] and [40], with the words of [6] and what [10] says of errors."""

import random

from rebuiltby.bookclasses import Book
from rebuiltby.claimnumbers import base_of, right_of, wrong_of
from rebuiltby.standings import Standing, standing_of
from tests.books import ALONE, BOOK, EMPTY, NO_NAMES, NO_NUMBERS, SPLIT, BookCase
from tests.books import random_book, source_names

BIG = 10 ** 58 + 7
PAIRS = ((0, 0), (0, 1), (1, 0), (0, 2), (2, 5), (5, 2), (3, 3), (BIG, BIG + 1), (BIG + 1, BIG), (0, BIG), (BIG, 0))
# Objects of the package are values, too, but no numbers.
NO_NUMBERS_HERE = NO_NUMBERS + (Book(), Standing(1, 1), (1, 2), 'right 1, wrong 2', [], 'n' * 4000)


def plain_verdict(right, wrong, budget):
    """The verdict of [6]."""
    if min(right, wrong) > budget:
        return 'none'
    return 'right' if wrong > budget else 'wrong' if right > budget else 'open'


class StandingTest(BookCase):

    def numbers(self, standing, right, wrong):
        """The standing has just these two attributes and is of the class itself."""
        self.assertIs(type(standing), Standing)
        self.assert_same(vars(standing), {'right': right, 'wrong': wrong})

    def test_example(self):
        known = standing_of(BOOK, 'x', 'cc')
        found = [str(known), known.base, known(0), known(1), known(2), (-known)(1), str(3 + known)]
        self.assert_same(found, ['right 0, wrong 2', 0, 'right', 'right', 'open', 'wrong', 'right 3, wrong 5'])
        self.assert_same([known <= Standing(1, 2), known == Standing(0, 2)], [True, True])

    def test_numbers(self):
        for right, wrong in PAIRS:
            self.numbers(Standing(right, wrong), right, wrong)
            self.numbers(Standing(wrong=wrong, right=right), right, wrong)
            self.assert_same(Standing(right, wrong).base, min(right, wrong))
            self.numbers(Standing.open_at(right), right, right)
            self.numbers(Standing(1, 2).open_at(n=wrong), wrong, wrong)

    def test_no_numbers(self):
        for thing in NO_NUMBERS_HERE:
            self.assert_not_usable('right', Standing, thing, 1)
            self.assert_not_usable('right', Standing, thing, thing)
            self.assert_not_usable('wrong', Standing, 1, thing)
            self.assert_not_usable('n', Standing.open_at, thing)
            self.assert_not_usable('budget', Standing(1, 2), thing)
            self.assert_not_usable('other', lambda: Standing(1, 2) + thing)
            if not isinstance(thing, (Standing, Book)):
                self.assert_not_usable('other', lambda: thing + Standing(1, 2))

    def test_verdicts(self):
        for right, wrong in PAIRS:
            for budget in {0, 1, 2, 3, 10 ** 59} | {max(0, n + by) for n in (right, wrong) for by in (-1, 0, 1)}:
                self.assert_same(Standing(right, wrong)(budget), plain_verdict(right, wrong, budget))
                self.assert_same(Standing(right, wrong)(budget=budget), plain_verdict(right, wrong, budget))
        words = [Standing(1, 3)(k) for k in range(5)]
        self.assert_same(words, ['none', 'right', 'right', 'open', 'open'])
        self.assert_same([Standing(3, 1)(k) for k in range(4)], ['none', 'wrong', 'wrong', 'open'])
        self.assert_same([Standing(2, 2)(k) for k in range(4)], ['none', 'none', 'open', 'open'])

    def test_minus_and_plus(self):
        for right, wrong in PAIRS:
            standing = Standing(right, wrong)
            self.numbers(-standing, wrong, right)
            self.numbers(--standing, right, wrong)
            for n in (0, 1, 7, BIG):
                self.numbers(standing + n, right + n, wrong + n)
                self.numbers(n + standing, right + n, wrong + n)
            self.numbers(standing, right, wrong)

    def test_two_of_them_are_not_added(self):
        self.assert_not_usable('other', lambda: Standing(1, 2) + Standing(1, 2))
        self.assert_not_usable('other', lambda: Standing(1, 2) + Book())
        self.assert_not_usable('other', lambda: sum([Standing(1, 2), Standing(1, 2)]))

    def test_at_most(self):
        for right, wrong in PAIRS:
            for other in PAIRS:
                told = Standing(right, wrong) <= Standing(*other)
                self.assert_same(told, right <= other[0] and wrong <= other[1])
        self.assert_same(Standing(0, 1) >= Standing(1, 0), False)
        self.assertRaises(TypeError, lambda: Standing(0, 1) <= 3)
        self.assertRaises(TypeError, lambda: (0, 1) <= Standing(0, 1))

    def test_equal(self):
        for right, wrong in PAIRS:
            for other in PAIRS:
                self.assert_same(Standing(right, wrong) == Standing(*other), (right, wrong) == other)
                self.assert_same(Standing(right, wrong) != Standing(*other), (right, wrong) != other)
        for thing in NO_NUMBERS + (0, 1, (0, 1), [0, 1], 'right 0, wrong 1', Book()):
            self.assert_same([Standing(0, 1) == thing, thing == Standing(0, 1)], [False, False])
            self.assert_same([Standing(0, 1) != thing, thing != Standing(0, 1)], [True, True])
            self.assert_same([Standing(0, 0) == thing, Standing(1, 1) == thing], [False, False])

    def test_text(self):
        for right, wrong in PAIRS:
            self.assert_same(str(Standing(right, wrong)), 'right ' + str(right) + ', wrong ' + str(wrong))

    def test_it_never_changes(self):
        standing = Standing(2, 5)
        same = standing
        standing += 1
        self.numbers(standing, 3, 6)
        for ask in (lambda: same + 4, lambda: 4 + same, lambda: -same, lambda: same(3), lambda: same.base):
            ask()
        for wrong in (lambda: same + True, lambda: None + same, lambda: same('1')):
            self.assertRaises(ValueError, wrong)
        self.numbers(same, 2, 5)
        with self.assertRaises(AttributeError):
            same.base = 1

    def test_consequences(self):
        dice = random.Random(5)
        for _ in range(200):
            right, wrong, k, n = [dice.choice((0, 1, 2, 3, BIG)) for _ in range(4)]
            standing = Standing(right, wrong)
            self.assert_same(standing(k) == 'right', right <= k < wrong)
            self.assert_same((standing + n)(k + n), standing(k))
            exchanged = {'right': 'wrong', 'wrong': 'right'}.get(standing(k), standing(k))
            self.assert_same((-standing)(k), exchanged)


class StandingOfTest(BookCase):

    def test_numbers_of_claims(self):
        for seed in range(60):
            book = random_book(seed)
            for source in source_names(book):
                for file in ('f0', 'f1', 'g'):
                    standing = standing_of(book, file, source)
                    self.assertIs(type(standing), Standing)
                    self.assert_same((standing.right, standing.wrong), (
                        right_of(book, file, source), wrong_of(book, file, source)))
                    self.assert_same(standing.base, base_of(book))

    def test_files_that_the_book_does_not_have(self):
        self.assertEqual(standing_of(book=ALONE, file='other', source='tcc'), Standing(0, 0))
        self.assertEqual(standing_of(SPLIT, 'q', 'cc'), Standing(1, 1))

    def test_errors(self):
        for thing in NO_NAMES + (Book(), Standing(0, 0)):
            self.assert_not_usable('file', standing_of, BOOK, thing, 'cc')
            self.assert_not_usable('file', standing_of, BOOK, thing, thing)
            self.assert_not_usable('source', standing_of, BOOK, 'x', thing)
        self.assert_not_usable('source', standing_of, BOOK, 'x', 'dd')
        self.assert_not_usable('source', standing_of, EMPTY, 'x', 'cc')
