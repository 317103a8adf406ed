"""Promises [13] and [14]: parts of books."""

import unittest

from rebuiltby.bookparts import builds_by, builds_of, compiling, files_of, uses_below, weight_of
from tests.books import BOOK, EMPTY, LINKED, NO_NAMES, SOURCES, BookCase, nested, random_book, subsets

NO_PARTIES = NO_NAMES[:10] + (('b',), ('bob', 'ann'), ('ann', 'ann'), ('cc',), ['ann'], 'ann', (True,), nested('ann', 2))


class PartsTest(BookCase):

    def test_example(self):
        self.assert_same([builds_of(BOOK, 'x'), compiling(BOOK, 'c')], [(0, 1, 4), ('cc', 'tcc')])

    def test_files(self):
        self.assert_same([files_of(BOOK), files_of(book=EMPTY)], [('t', 'x', 'y'), ()])
        self.assert_same(files_of(LINKED), ('a', 'k', 'l', 'n', 'o'))
        early = LINKED[:3] + ((('bob', 'q', 'app', ('s', 'r'), 'b'),),)
        self.assert_same(files_of(early), ('b', 'q', 'r', 's'))
        for seed in range(60):
            book = random_book(seed)
            files = {file for row in book[3] for file in (row[1], *row[3], row[4]) if file is not None}
            self.assert_same(files_of(book), tuple(sorted(files)))

    def test_weights(self):
        self.assert_same([weight_of(BOOK, names) for names in subsets(('ann', 'bob', 'cy'))], [0, 1, 1, 2, 1, 2, 2, 3])
        self.assert_same(weight_of(LINKED, ('ann', 'bob')), 10 ** 60 + 3)
        self.assert_same(weight_of(book=EMPTY, parties=()), 0)

    def test_builds(self):
        self.assert_same([builds_by(BOOK, name) for name in ('ann', 'bob', 'cy')], [(0,), (2,), (1, 3, 4)])
        self.assert_same([builds_of(BOOK, name) for name in ('t', 'y', 'q', 'ann')], [(2,), (3,), (), ()])
        self.assert_same(builds_by(book=LINKED, party='bob') + builds_of(book=LINKED, file='a'), (2, 3, 3, 4))
        # A compiler or a part is not what the build ends in.
        self.assert_same(builds_of(LINKED, 'k'), (0,))

    def test_compiling(self):
        rows = [compiling(LINKED, name) for name in ('c', 'asm', 'cc')]
        self.assert_same(rows, [('cc', 'old'), ('old',), ()])
        self.assert_same(compiling(book=EMPTY, language='c'), ())

    def test_uses_below(self):
        rows = [uses_below(LINKED, name) for name in ('app', 'net', 'lib', 'cc')]
        self.assert_same(rows, [('lib', 'net'), ('lib',), (), ()])
        chain = tuple((f'a{k}', 'c', (), True, (f'a{k + 1}',)) for k in range(1000, 1500))
        book = (chain + (('a1500', 'c', (), True, ()),), (), (), ())
        self.assert_same(uses_below(book=book, source='a1498'), ('a1499', 'a1500'))
        self.assertEqual(len(uses_below(book, 'a1000')), 500)
        # Only what uses name is reached, and what that names in turn.
        book = ((('a', 'c', (), True, ('b',)), ('b', 'c', (), True, ('d',)), ('d', 'c', (), True, ()), SOURCES[1]), (), (), ())
        self.assert_same(uses_below(book, 'a'), ('b', 'd'))

    def test_errors(self):
        for thing in NO_PARTIES:
            if thing != ():
                self.assert_not_usable('parties', weight_of, BOOK, thing)
        for thing in NO_NAMES + ('cc', 'x', 'dan'):
            self.assert_not_usable('party', builds_by, BOOK, thing)
        for thing in NO_NAMES:
            self.assert_not_usable('file', builds_of, BOOK, thing)
            self.assert_not_usable('language', compiling, BOOK, thing)
        for thing in NO_NAMES + ('c', 'x', 'ann', 'dd'):
            self.assert_not_usable('source', uses_below, BOOK, thing)


if __name__ == '__main__':
    unittest.main()
