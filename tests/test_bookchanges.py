"""Promises [13], [15] and [16]: changes of books."""

import random
import unittest

from rebuiltby.bookchanges import joined, renamed, with_build, with_unlike, with_weight, without_build, without_unlike
from rebuiltby.bookchecker import lets_book
from rebuiltby.bookclasses import Book
from rebuiltby.bookparts import files_of
from rebuiltby.closing import facts_of
from tests.books import ALONE, BOOK, EMPTY, LINKED, MORE, NO_NAMES, NO_NUMBERS, OWN, PARTIES, SOURCES, BookCase
from tests.books import nested, party_names, random_book, source_names

VOUCHED = ('dan', None, 'dd', (), 'x')


class ChangesTest(BookCase):

    def test_with_build(self):
        self.assert_same(with_build(ALONE, MORE[0]), (SOURCES, PARTIES, (), OWN + MORE[:1]))
        self.assert_same(with_build(book=ALONE, build=MORE[0], at=None), with_build(ALONE, MORE[0], at=2))
        self.assert_same(with_build(ALONE, MORE[0], at=0)[3], MORE[:1] + OWN)
        self.assert_same(with_build(ALONE, MORE[0], at=1)[3], OWN[:1] + MORE[:1] + OWN[1:])
        self.assert_same(with_build(EMPTY, MORE[0], at=0)[3], MORE[:1])
        self.assertRaises(TypeError, with_build, ALONE, MORE[0], 0)

    def test_with_build_may_give_no_book(self):
        self.assert_paper('twice', 2, lets_book, with_build(ALONE, OWN[0]))
        self.assert_paper('by', 0, lets_book, with_build(ALONE, VOUCHED, at=0))

    def test_with_build_errors(self):
        for thing in NO_NAMES + (OWN[0][:4], ('ann', None, 'cc', ('x',), 'x')):
            self.assert_not_usable('build', with_build, ALONE, thing, at='q')
        for at in NO_NUMBERS[1:] + (3, 10 ** 60):
            self.assert_not_usable('at', with_build, ALONE, MORE[0], at=at)

    def test_without_build(self):
        for k in range(5):
            self.assert_same(without_build(BOOK, k), BOOK[:3] + (BOOK[3][:k] + BOOK[3][k + 1:],))
            self.assert_same(with_build(without_build(BOOK, k), BOOK[3][k], at=k), BOOK)
        self.assert_same(without_build(book=ALONE, k=1)[3], OWN[:1])
        for k in NO_NUMBERS + (5, 10 ** 60):
            self.assert_not_usable('k', without_build, BOOK, k)
        self.assert_not_usable('k', without_build, EMPTY, 0)

    def test_with_weight(self):
        self.assert_same(with_weight(ALONE, 'bob', 7), (SOURCES, (('ann', 1), ('bob', 7), ('cy', 1)), (), OWN))
        self.assert_same(with_weight(book=ALONE, party='cy', weight=10 ** 60)[1], PARTIES[:2] + (('cy', 10 ** 60),))
        self.assert_same(with_weight(LINKED, 'ann', 1)[1], (('ann', 1),) + LINKED[1][1:])
        for thing in NO_NAMES + ('cc', 'dan'):
            self.assert_not_usable('party', with_weight, ALONE, thing, 0)
        for thing in NO_NUMBERS + (0,):
            self.assert_not_usable('weight', with_weight, ALONE, 'ann', thing)

    def test_unlike(self):
        told = SOURCES, PARTIES, (('cc', 'tcc'),), OWN
        self.assert_same(with_unlike(ALONE, 'cc', 'tcc'), told)
        self.assert_same(with_unlike(book=ALONE, one='tcc', other='cc'), told)
        self.assert_same(without_unlike(told, 'tcc', 'cc'), ALONE)
        self.assert_same(without_unlike(book=told, one='cc', other='tcc'), ALONE)
        more = with_unlike(with_unlike(LINKED, 'app', 'old'), 'cc', 'lib')
        self.assert_same(more[2], (('app', 'old'), ('cc', 'lib'), ('cc', 'old'), ('lib', 'net')))
        self.assert_same(without_unlike(more, 'old', 'cc')[2], (('app', 'old'), ('cc', 'lib'), ('lib', 'net')))
        self.assertEqual(lets_book(more), 6)

    def test_unlike_errors(self):
        for call in (with_unlike, without_unlike):
            for thing in NO_NAMES + ('dd', 'ann', 'x'):
                self.assert_not_usable('one', call, ALONE, thing, thing)
                self.assert_not_usable('other', call, ALONE, 'cc', thing)
            self.assert_not_usable('other', call, ALONE, 'cc', 'cc')
        self.assert_not_usable('twice', with_unlike, LINKED, 'old', 'cc')
        self.assert_not_usable('twice', with_unlike, LINKED, 'cc', 'old')
        self.assert_not_usable('unlike', without_unlike, LINKED, 'cc', 'lib')
        self.assert_not_usable('unlike', without_unlike, ALONE, 'tcc', 'cc')

    def test_joined(self):
        other = (SOURCES, PARTIES, (('cc', 'tcc'),), MORE[2:] + OWN[:1] + MORE[:1])
        self.assert_same(joined(ALONE, other), other[:3] + (OWN + MORE[2:] + MORE[:1],))
        self.assert_same(joined(book=other, other=ALONE), other[:3] + (other[3] + OWN[1:],))
        self.assert_same([joined(ALONE, ALONE), joined(EMPTY, EMPTY)], [ALONE, EMPTY])
        one = LINKED[:2] + ((('app', 'cc'), ('lib', 'net')), ())
        self.assert_same(joined(one, LINKED)[2:], ((('app', 'cc'), ('cc', 'old'), ('lib', 'net')), LINKED[3]))

    def test_joined_errors(self):
        for thing in NO_NAMES + (Book(), Book(*ALONE), EMPTY, nested(ALONE, 9), list(ALONE)):
            self.assert_not_usable('other', joined, ALONE, thing)
        loose = (SOURCES[0], SOURCES[1][:3] + (False, ()))
        for other in ((SOURCES[:1], PARTIES, (), OWN), (loose, PARTIES, (), OWN), (SOURCES, PARTIES + (('dan', 1),), (), OWN)):
            self.assertEqual(lets_book(other), 2)
            self.assert_not_usable('other', joined, ALONE, other)
        self.assert_not_usable('other', joined, ALONE, with_weight(ALONE, 'ann', 2))
        # True is not 1, and what lets_book does not accept is no book.
        numbers = (SOURCES[0], SOURCES[1][:3] + (1, ()))
        truths = (('ann', True), ('bob', 1), ('cy', 1))
        for other in ((numbers, PARTIES, (), ()), (SOURCES, truths, (), ()), (SOURCES, PARTIES, (), OWN[:1] * 2)):
            self.assert_not_usable('other', joined, ALONE, other)


class RenamedTest(BookCase):

    def test_example(self):
        told = renamed(ALONE, files=(('x', 'w'),))
        self.assert_same(told, (SOURCES, PARTIES, (), (('ann', None, 'cc', (), 'w'), ('cy', 'w', 'cc', (), 'w'))))

    def test_all_tables(self):
        tables = {
            'parties': (('cy', 'al'), ('ann', 'zed')),
            'sources': (('lib', 'zlib'), ('cc', 'zz'), ('app', 'prog')),
            'files': (('n', 'l'), ('l', 'n'), ('k', 'abcdefgh')),
        }
        told = renamed(LINKED, **tables)
        self.assert_same(told, (
            (
                ('net', 'c', (), True, ('zlib',)), ('old', 'asm', ('asm', 'c'), False, ()),
                ('prog', 'c', (), False, ('net', 'zlib')), ('zlib', 'c', (), True, ()), ('zz', 'asm', ('c',), True, ()),
            ),
            (('al', 1), ('bob', 10 ** 60), ('zed', 3)),
            (('net', 'zlib'), ('old', 'zz')),
            (
                ('zed', None, 'zz', (), 'abcdefgh'), ('zed', 'abcdefgh', 'zlib', (), 'n'),
                ('bob', 'abcdefgh', 'net', ('n',), 'l'), ('bob', 'abcdefgh', 'prog', ('l', 'n'), 'a'),
                ('al', None, 'prog', (), 'a'), ('al', None, 'old', (), 'o'),
            ),
        ))

    def test_each_part_goes_with_its_use(self):
        told = renamed(LINKED, sources=(('net', 'abc'),))
        self.assert_same(told[0][1], ('app', 'c', (), False, ('abc', 'lib')))
        self.assert_same(told[3][3], ('bob', 'k', 'app', ('n', 'l'), 'a'))

    def test_nothing_changes_without_names_of_the_book(self):
        for table in ((), (('q', 'x'), ('r', 'x'), ('c', 'd'))):
            self.assert_same(renamed(LINKED, parties=table, sources=table, files=table), LINKED)
        self.assert_same(renamed(ALONE, parties=(('ann', 'ann'),), sources=(('cc', 'cc'),)), ALONE)
        self.assert_same(renamed(book=EMPTY), EMPTY)
        self.assert_same(renamed(ALONE, files=(('y', 'x'),)), ALONE)
        self.assertRaises(TypeError, renamed, ALONE, ())

    def test_errors(self):
        no_tables = NO_NAMES + ('xy', (('x',),), (('x', 'y', 'z'),), (['x', 'y'],), [('x', 'y')], (('x', 'Y'),), (None,))
        for word in ('parties', 'sources', 'files'):
            for table in no_tables:
                if table != ():
                    self.assert_not_usable(word, renamed, BOOK, **{word: table})
            for table in ((('q', 'r'), ('q', 's')), (('q', 'r'), ('q', 'r'))):
                self.assert_not_usable(word, renamed, BOOK, **{word: table})
        self.assert_not_usable('parties', renamed, BOOK, parties=(('ann', 'bob'),))
        self.assert_not_usable('sources', renamed, BOOK, sources=(('cc', 'q'), ('tcc', 'q')))
        self.assert_not_usable('files', renamed, BOOK, files=(('t', 'y'),))
        self.assert_not_usable('files', renamed, EMPTY, files=(1,))
        # One name may go to a party, a source and a file.
        same = renamed(ALONE, parties=(('ann', 'q'),), sources=(('cc', 'q'),), files=(('x', 'q'),))
        self.assert_same(same[3][0], ('q', None, 'q', (), 'q'))

    def test_order_of_errors(self):
        self.assert_not_usable('parties', renamed, BOOK, files=1, sources=1, parties=(('ann', 'bob'),))
        self.assert_not_usable('sources', renamed, BOOK, files=1, sources=(('cc', 'tcc'),))

    def test_the_inverse_table_gives_the_book_back(self):
        for seed in range(120):
            book = random_book(seed)
            dice = random.Random(seed)
            tables = {}
            for word, names in (('parties', party_names(book)), ('sources', source_names(book)), ('files', files_of(book))):
                fresh = list(names) + [f'z{k}' for k in range(3)]
                dice.shuffle(fresh)
                pairs = list(zip(names, fresh))
                dice.shuffle(pairs)
                tables[word] = tuple(pairs)
            told = renamed(book, **tables)
            self.assertEqual(lets_book(told), len(book[3]))
            back = {word: tuple((new, old) for old, new in table) for word, table in tables.items()}
            self.assert_same(renamed(told, **back), book)
            # The facts are the same but for the names, so each part went with its use.
            files, sources = dict(tables['files']), dict(tables['sources'])
            facts = {(files[file], sources[name]) for file, name in facts_of(book, party_names(book))}
            self.assertEqual(set(facts_of(told, party_names(told))), facts)


class UnchangedTest(BookCase):

    def test_all_else_remains(self):
        for seed in range(60):
            book = random_book(seed)
            before = repr(book)
            build = (book[1][0][0], None, book[0][0][0], (), 'new')
            self.assert_same(with_build(book, build)[:3], book[:3])
            self.assert_same(without_build(with_build(book, build), len(book[3])), book)
            changed = with_weight(book, book[1][0][0], 99)
            self.assert_same((changed[0], changed[1][1:], changed[2], changed[3]), (book[0], book[1][1:], book[2], book[3]))
            self.assertEqual(repr(book), before)


if __name__ == '__main__':
    unittest.main()
