"""Promise [12]: the checker of books."""

import unittest

from rebuiltby.bookchecker import lets_book
from rebuiltby.bookclasses import Book
from tests.books import ALONE, BOOK, EMPTY, LINKED, NO_NAMES, PARTIES, SOURCES, SPLIT, BookCase, nested, random_book
from tests.books import OWN


def source(name, *uses):
    """A source with this name and these uses."""
    return (name, 'c', (), True, uses)


class CheckerTest(BookCase):

    def test_books_are_counted(self):
        self.assert_same([lets_book(BOOK), lets_book(ALONE), lets_book(SPLIT)], [5, 2, 5])
        self.assert_same([lets_book(LINKED), lets_book(EMPTY), lets_book(thing=EMPTY)], [6, 0, 0])
        for seed in range(50):
            book = random_book(seed)
            self.assert_same(lets_book(book), len(book[3]))

    def test_shape(self):
        for thing in NO_NAMES + ('a', Book(), EMPTY[:3], EMPTY + ((),), list(EMPTY), nested(BOOK, 20)):
            self.assert_paper('shape', -1, lets_book, thing)
        for at in range(4):
            for part in (None, [], '', 0, True, list(BOOK[at])):
                self.assert_paper('shape', -1, lets_book, BOOK[:at] + (part,) + BOOK[at + 1:])
        self.assert_paper('shape', -1, lets_book, ((1,), (1,), (1,), [1]))

    def test_source(self):
        for thing in NO_NAMES + (SOURCES[1][:4], ('tcc', 'c', ('c',), 1, ())):
            self.assert_paper('source', 1, lets_book, (SOURCES[:1] + (thing, thing), PARTIES, (), ()))
        for rows in (SOURCES[::-1], SOURCES[:1] * 2):
            self.assert_paper('source', 1, lets_book, (rows, (), (), ()))
        self.assert_paper('source', 0, lets_book, ((None,), (), (), ()))
        self.assert_paper('source', 2, lets_book, ((source('a'), source('c'), source('b')), (), (), ()))

    def test_uses(self):
        self.assert_paper('uses', 0, lets_book, ((source('a', 'b'),), (), (), ()))
        self.assert_paper('uses', 1, lets_book, ((source('a'), source('b', 'a', 'c')), (), (), ()))
        self.assertEqual(lets_book(((source('a', 'b'), source('b')), (), (), ())), 0)

    def test_ring(self):
        self.assert_paper('ring', 0, lets_book, ((source('a', 'a'),), (), (), ()))
        # c and d are a ring; b reaches it and is not in it.
        ring = (source('a'), source('b', 'c'), source('c', 'd'), source('d', 'c'))
        self.assert_paper('ring', 2, lets_book, (ring, (), (), ()))
        diamond = (source('a'), source('b', 'a'), source('c', 'a'), source('d', 'a', 'b', 'c'))
        self.assertEqual(lets_book((diamond, (), (), ())), 0)
        many = tuple(source(f'a{k}', f'a{k + 1}') for k in range(1000, 1400))
        self.assertEqual(lets_book((many + (source('a1400'),), (), (), ())), 0)
        self.assert_paper('ring', 0, lets_book, (many + (source('a1400', 'a1000'),), (), (), ()))

    def test_party(self):
        for thing in NO_NAMES + (('bob', 0), ('bob', True), ('bob',), ['bob', 1]):
            self.assert_paper('party', 1, lets_book, (SOURCES, PARTIES[:1] + (thing, thing), (), ()))
        for rows in (PARTIES[1::-1], (('ann', 1), ('ann', 2))):
            self.assert_paper('party', 1, lets_book, (SOURCES, rows, (), ()))
        self.assert_paper('party', 0, lets_book, ((), (('ann', 0),), (), ()))

    def test_unlike(self):
        for thing in NO_NAMES + (('tcc', 'cc'), ('cc', 'cc'), ('cc', 'd'), ('b', 'cc'), ['cc', 'tcc'], ('cc', 'tcc', 'x')):
            self.assert_paper('unlike', 0, lets_book, (SOURCES, PARTIES, (thing, thing), ()))
        rows = tuple(source(name) for name in 'abc')
        self.assertEqual(lets_book((rows, (), (('a', 'b'), ('a', 'c'), ('b', 'c')), ())), 0)
        self.assert_paper('unlike', 1, lets_book, (rows, (), (('a', 'c'), ('a', 'b')), ()))
        self.assert_paper('unlike', 2, lets_book, (rows, (), (('a', 'b'), ('b', 'c'), ('b', 'c')), ()))

    def test_build(self):
        for thing in NO_NAMES + (OWN[0][:4], ('ann', None, 'cc', ('x',), 'x'), list(OWN[0])):
            self.assert_paper('build', 1, lets_book, (SOURCES, PARTIES, (), OWN[:1] + (thing,)))

    def test_by_and_of(self):
        self.assert_paper('by', 1, lets_book, (SOURCES, PARTIES, (), OWN[:1] + (('dan', None, 'cc', (), 'x'),)))
        self.assert_paper('of', 2, lets_book, (SOURCES, PARTIES, (), OWN + (('cy', 'x', 'dd', (), 'x'),)))
        self.assert_paper('by', 0, lets_book, (SOURCES, PARTIES, (), (('cc', None, 'ann', (), 'x'),)))

    def test_parts(self):
        sources, parties, unlike, builds = LINKED
        for parts in ((), ('l',), ('l', 'n', 'l')):
            said = builds[:2] + (('bob', 'k', 'app', parts, 'b'),)
            self.assert_paper('parts', 2, lets_book, (sources, parties, unlike, said))
        self.assert_paper('parts', 0, lets_book, (SOURCES, PARTIES, (), (('cy', 'x', 'cc', ('x',), 'x'),)))
        # A vouching has no parts, whatever the uses.
        self.assertEqual(lets_book((sources, parties, unlike, (('bob', None, 'app', (), 'b'),))), 1)

    def test_twice(self):
        self.assert_paper('twice', 2, lets_book, (SOURCES, PARTIES, (), OWN + OWN[:1]))
        self.assert_paper('twice', 2, lets_book, (SOURCES, PARTIES, (), OWN + OWN[1:]))
        self.assertEqual(lets_book((SOURCES, PARTIES, (), OWN + (('cy', 'x', 'cc', (), 'y'),))), 3)

    def test_the_first_entry_that_applies_is_told(self):
        twice, late = OWN + OWN[:1], ('dan', 'x', 'dd', ('x',), 'x')
        bad = (SOURCES, PARTIES, (('cc', 'cc'),), (None,))
        self.assert_paper('unlike', 0, lets_book, bad)
        self.assert_paper('party', 0, lets_book, (SOURCES, (None,)) + bad[2:])
        self.assert_paper('ring', 0, lets_book, ((source('a', 'a'),), (None,)) + bad[2:])
        self.assert_paper('uses', 1, lets_book, ((source('a', 'a'), source('b', 'c')), (None,)) + bad[2:])
        self.assert_paper('source', 2, lets_book, ((source('a', 'a'), source('b', 'c'), None), (None,)) + bad[2:])
        self.assert_paper('shape', -1, lets_book, ((source('a', 'a'), None), (None,), (None,), [None]))
        self.assert_paper('by', 0, lets_book, (SOURCES, PARTIES, (), (late,)))
        self.assert_paper('of', 0, lets_book, (SOURCES, PARTIES, (), (('cy',) + late[1:],)))
        self.assert_paper('parts', 0, lets_book, (SOURCES, PARTIES, (), (('cy', 'x', 'cc', ('x',), 'x'),) * 2))
        # All checks of one build come before those of the next one.
        self.assert_paper('twice', 2, lets_book, (SOURCES, PARTIES, (), twice + (None,)))
        self.assert_paper('by', 0, lets_book, (SOURCES, PARTIES, (), (late, None)))
        self.assert_paper('source', 1, lets_book, (SOURCES[:1] * 2 + (None,), (), (), ()))


if __name__ == '__main__':
    unittest.main()
