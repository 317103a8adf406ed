"""Promise [11]: the forms of values."""

import unittest

from rebuiltby import kinds
from rebuiltby.bookclasses import Book
from tests.books import ALONE, BOOK, EMPTY, LINKED, NO_NAMES, NO_NUMBERS, SPLIT, BookCase, nested

ALL_KINDS = (
    'is_integer', 'is_number', 'is_name', 'is_set', 'is_source', 'is_party', 'is_build', 'is_fact', 'is_book',
)
SOURCE = ('cc', 'c', ('c',), True, ('a', 'b'))
BUILD = ('ann', 'x', 'cc', ('p', 'o', 'p'), 'y')


def changed(row, at, thing):
    """The row with the thing in the place of one of its values."""
    return row[:at] + (thing,) + row[at + 1:]


class KindsTest(BookCase):

    def assert_kind(self, name, yes, no):
        """The function tells True of all values of yes, False of all of no."""
        for thing in yes:
            self.assertIs(getattr(kinds, name)(thing), True, (name, thing))
            self.assertIs(getattr(kinds, name)(thing=thing), True)
        for thing in no:
            self.assertIs(getattr(kinds, name)(thing), False, (name, thing))

    def test_integers(self):
        no = (None, True, False, '1', '', (), (1,), [1], nested(1, 30), Book())
        self.assert_kind('is_integer', (0, 1, -1, 10 ** 60, -10 ** 60, 10 ** 100), no)
        self.assert_kind('is_number', (0, 1, 10 ** 60, 10 ** 100), no + NO_NUMBERS)

    def test_names(self):
        yes = ('a', 'z', 'abcdefgh', 'a1234567', 'z09', 'none')
        self.assert_kind('is_name', yes, NO_NAMES + ('a_', 'a.b', 'a,b', '0', '_a', '`a', '{', 'a:', 'a/', Book()))

    def test_sets(self):
        yes = ((), ('a',), ('a', 'b'), ('a', 'a1', 'aa', 'b'), ('abcdefgh',))
        no = (None, True, 1, 'a', '', [], ['a'], ('b', 'a'), ('a', 'a'), ('a', 'b', 'b'), ('a', 'c', 'b'),
              ('a', 1), (1, 2), (True,), ('',), ('A',), ('abcdefghi',), (('a',),), nested('a', 30))
        self.assert_kind('is_set', yes, no)

    def test_sources(self):
        yes = [SOURCE, changed(SOURCE, 3, False), changed(SOURCE, 2, ()), changed(SOURCE, 4, ())]
        no = [None, True, 5, 'cc', (), SOURCE[:4], SOURCE + (1,), list(SOURCE), (SOURCE,), nested(SOURCE, 28)]
        no += [changed(SOURCE, at, thing) for at in (0, 1) for thing in NO_NAMES]
        no += [changed(SOURCE, 3, thing) for thing in (0, 1, None, 'steady', (), (True,))]
        no += [changed(SOURCE, at, thing) for at in (2, 4)
               for thing in (None, 'c', ['c'], ('b', 'a'), ('a', 'a'), (1,), (('c',),), True)]
        self.assert_kind('is_source', yes, no)

    def test_a_source_may_use_itself_by_form(self):
        self.assert_kind('is_source', [('a', 'c', (), True, ('a',))], [])

    def test_parties(self):
        yes = [('a', 1), ('abcdefgh', 10 ** 60), ('a', 10 ** 70)]
        no = [None, 'a', 1, (), ('a',), ('a', 1, 1), ['a', 1], (1, 'a'), (('a', 1),), ('a', 0), ('a', -1), ('a', True)]
        no += [('a', thing) for thing in NO_NUMBERS] + [(thing, 1) for thing in NO_NAMES]
        self.assert_kind('is_party', yes, no)

    def test_builds(self):
        yes = [BUILD, changed(BUILD, 3, ()), ('ann', None, 'cc', (), 'x'), changed(BUILD, 3, ('a',) * 9)]
        no = [None, (), 5, 'build', BUILD[:4], BUILD + ('z',), list(BUILD), (BUILD,), nested(BUILD, 28),
              changed(BUILD, 1, None), ('ann', None, 'cc', [], 'x'), ('ann', None, 'cc', None, 'x'),
              ('ann', None, 'cc', ('a',), 'x')]
        no += [changed(BUILD, at, thing) for at in (0, 2, 4) for thing in NO_NAMES]
        no += [changed(BUILD, 1, thing) for thing in NO_NAMES if thing is not None]
        no += [changed(BUILD, 3, thing) for thing in (None, 'p', ['p'], (1,), ('p', True), (('p',),), ('P',), ('p', None))]
        self.assert_kind('is_build', yes, no)

    def test_facts(self):
        yes = [('x', 'cc'), ('cc', 'cc'), ('b', 'a')]
        no = [None, 'x', (), ('x',), ('x', 'cc', 'x'), ['x', 'cc'], (('x', 'cc'),)]
        no += [('x', thing) for thing in NO_NAMES] + [(thing, 'x') for thing in NO_NAMES]
        self.assert_kind('is_fact', yes, no)

    def test_books(self):
        odd = (('b', 'c', (), True, ('q',)), ('a', 'c', (), True, ()))
        yes = [ALONE, BOOK, SPLIT, LINKED, EMPTY]
        yes += [(odd, (('z', 1), ('z', 1)), (('b', 'a'), ('q', 'q')), (BUILD, BUILD))]
        no = [None, True, (), EMPTY[:3], EMPTY + ((),), list(EMPTY), [list(part) for part in BOOK], nested(BOOK, 20)]
        no += [changed(EMPTY, at, thing) for at in range(4) for thing in (None, [], '', 1, (1,), ((),), (None,))]
        no += [((SOURCE[:4],), (), (), ()), ((), (('a', True),), (), ()), ((), (), (('a',),), ()),
               ((), (), (('a', 'b', 'c'),), ()), ((), (), (['a', 'b'],), ()), ((), (), (), (BUILD[:4],)), Book()]
        self.assert_kind('is_book', yes, no)

    def test_any_value_is_told_of(self):
        for name in ALL_KINDS:
            for thing in NO_NAMES + NO_NUMBERS + (Book(), 'a', ('a', 'b'), {}, b'a'):
                self.assertIn(getattr(kinds, name)(thing), (True, False))
                self.assertIs(type(getattr(kinds, name)(thing)), bool)


if __name__ == '__main__':
    unittest.main()
