"""Promise [28], as far as it speaks of lets_table, with what a table is in [6]."""

import random

from rebuiltby.bookchanges import with_unlike, without_build
from rebuiltby.bookclasses import Book
from rebuiltby.closing import facts_of, is_calm
from rebuiltby.errors import InvalidPaper
from rebuiltby.tablechecker import lets_table
from tests.books import ALL, ALONE, BOOK, EMPTY, LINKED, NO_NAMES, PARTIES, SOURCES, SPLIT, BookCase
from tests.books import party_names, plain_clashes, plain_facts, random_book, random_facts, source_names
from tests.test_closing import NO_FACT_SETS, NO_PARTY_SETS

TABLE = (('t', 'tcc'), ('x', 'cc'), ('y', 'cc'))


def plain_told(book, trusted, thing, supposed):
    """What the checker is to tell of a tuple of facts: how many they are, or the fields of its error."""
    rows = {source[0]: source for source in book[0]}
    for n, fact in enumerate(thing):
        if n and not thing[n - 1] < fact:
            return 'order', n
        if fact[1] not in rows:
            return 'fact', n
    for n, fact in enumerate(supposed):
        if fact not in thing:
            return 'supposed', n
    for k, (party, compiler, source, parts, file) in enumerate(book[3]):
        if party in trusted and (file, source) not in thing:
            if compiler is None:
                return 'vouched', k
            right = any((compiler, name) in thing and rows[source][1] in rows[name][2] for name in rows)
            if right and all(pair in thing for pair in zip(parts, rows[source][4])):
                return 'built', k
    many = range(len(thing))
    for i in many:
        for j in many:
            for l in many:
                if thing[i][1] == thing[j][1] and thing[j][0] == thing[l][0]:
                    if (thing[i][0], thing[l][1]) not in thing:
                        return 'moved', (i, j, l)
    for n in many:
        for source in rows:
            if (thing[n][0], source) in thing and tuple(sorted((source, thing[n][1]))) in book[2]:
                return 'unlike', n
    for k, one in enumerate(book[3]):
        for m, other in list(enumerate(book[3]))[k + 1:]:
            told = one[0] in trusted and other[0] in trusted and None not in (one[1], other[1])
            if told and one[2:4] == other[2:4] and one[4] != other[4]:
                if any(rows[s][3] and (one[1], s) in thing and (other[1], s) in thing for s in rows):
                    return 'parted', (k, m)
    return len(thing)


def told_of(book, trusted, thing, supposed):
    """What the checker tells: how many facts, or the fields of its error."""
    try:
        return lets_table(book, trusted, thing, supposed=supposed)
    except InvalidPaper as error:
        return error.word, error.at


class TableCheckerTest(BookCase):

    def test_examples(self):
        self.assert_same([lets_table(BOOK, ('bob', 'cy'), TABLE), lets_table(BOOK, ('cy',), ())], [3, 0])
        self.assert_paper('built', 1, lets_table, ALONE, ('cy',), (('x', 'tcc'),))

    def test_tables(self):
        self.assert_same(lets_table(book=ALONE, trusted=('cy',), thing=(('x', 'cc'),), supposed=()), 1)
        self.assert_same(lets_table(EMPTY, (), ()), 0)
        # More facts than the rules give, also of files that the book does not have.
        self.assert_same(lets_table(BOOK, (), (('q', 'cc'), ('r', 'tcc'))), 2)
        self.assert_same(lets_table(BOOK, ALL, TABLE + (('z', 'cc'),)), 4)
        self.assert_same(lets_table(BOOK, ALL, TABLE, supposed=TABLE[1:]), 3)

    def test_shapes(self):
        for thing in NO_NAMES + (Book(), TABLE[0], list(TABLE), (TABLE,), TABLE + (Book(),), (('x',),), (('x', 'cc', 'cc'),),
                                 (('x', 1),), (('X', 'cc'),), (['x', 'cc'],), (('x', None),), 'x', (('t', 'tcc'), 'x')):
            if thing != ():
                self.assert_paper('shape', -1, lets_table, BOOK, ('bob', 'cy'), thing)
        # The shape of a later one is looked at ahead of all else.
        self.assert_paper('shape', -1, lets_table, BOOK, ALL, (('y', 'dd'), ('x', 'cc'), ('t',)))

    def test_order_and_facts(self):
        self.assert_paper('order', 1, lets_table, BOOK, ALL, (TABLE[1], TABLE[0], TABLE[2]))
        self.assert_paper('order', 2, lets_table, BOOK, ALL, TABLE[:2] + TABLE[1:])
        self.assert_paper('order', 1, lets_table, BOOK, (), (('x', 'tcc'), ('x', 'cc')))
        self.assert_paper('fact', 0, lets_table, BOOK, ALL, (('t', 'dd'),) + TABLE)
        self.assert_paper('fact', 3, lets_table, BOOK, ALL, TABLE + (('z', 'c'), ('a', 'cc')))
        self.assert_paper('order', 1, lets_table, BOOK, ALL, (('z', 'cc'), ('x', 'dd'), ('y', 'dd')))
        self.assert_paper('fact', 0, lets_table, EMPTY, (), (('x', 'cc'),))

    def test_supposed(self):
        self.assert_paper('supposed', 0, lets_table, BOOK, (), (), supposed=(('x', 'cc'),))
        self.assert_paper('supposed', 1, lets_table, BOOK, ALL, TABLE[:2], supposed=(('x', 'cc'), ('z', 'tcc')))
        self.assert_same(lets_table(BOOK, (), (('z', 'tcc'),), supposed=(('z', 'tcc'),)), 1)

    def test_vouched_and_built(self):
        self.assert_paper('vouched', 0, lets_table, BOOK, ALL, ())
        self.assert_paper('vouched', 2, lets_table, BOOK, ('bob',), ())
        self.assert_paper('built', 3, lets_table, BOOK, ('bob', 'cy'), (('t', 'tcc'),))
        self.assert_paper('built', 3, lets_table, BOOK, ALL, (('t', 'tcc'), ('x', 'cc')))
        self.assert_paper('built', 4, lets_table, BOOK, ('bob', 'cy'), (('t', 'tcc'), ('y', 'cc')))
        self.assert_paper('vouched', 2, lets_table, BOOK, ALL, (('x', 'cc'),))
        # Whatever one part, or the compiler, is not told right for shows nothing.
        table = (('k', 'cc'), ('l', 'lib'))
        self.assert_paper('built', 2, lets_table, LINKED, ('ann', 'bob'), table)
        self.assert_paper('built', 3, lets_table, LINKED, ('ann', 'bob'), table + (('n', 'net'),))
        self.assert_same(lets_table(LINKED, ('bob',), table[1:]), 1)
        self.assert_same(lets_table(LINKED, ('bob',), (('l', 'net'), ('n', 'net'))), 2)
        self.assert_same(lets_table(LINKED, ('bob',), (('k', 'lib'), ('l', 'lib'))), 2)

    def test_moved(self):
        table = (('x', 'cc'), ('x', 'tcc'), ('y', 'cc'))
        self.assert_paper('moved', (2, 0, 1), lets_table, BOOK, (), table)
        table = (('x', 'cc'), ('y', 'cc'), ('y', 'tcc'))
        self.assert_paper('moved', (0, 1, 2), lets_table, BOOK, (), table)
        table = (('x', 'tcc'), ('y', 'cc'), ('y', 'tcc'), ('z', 'cc'))
        self.assert_paper('moved', (0, 2, 1), lets_table, BOOK, (), table)
        self.assert_same(lets_table(BOOK, (), (('x', 'cc'), ('x', 'tcc'), ('y', 'cc'), ('y', 'tcc'))), 4)

    def test_unlike(self):
        told = with_unlike(BOOK, 'cc', 'tcc')
        self.assert_paper('unlike', 0, lets_table, told, (), (('x', 'cc'), ('x', 'tcc')), supposed=())
        self.assert_same(lets_table(told, ALL, TABLE), 3)
        self.assert_paper('unlike', 1, lets_table, LINKED, (), (('a', 'app'), ('b', 'lib'), ('b', 'net')))
        self.assert_paper('unlike', 0, lets_table, LINKED, (), (('a', 'cc'), ('a', 'old'), ('b', 'lib'), ('b', 'net')))

    def test_parted(self):
        table = TABLE + (('z', 'cc'),)
        self.assert_paper('parted', (1, 4), lets_table, SPLIT, ALL, table)
        self.assert_same([lets_table(SPLIT, ('bob', 'cy'), TABLE[:1] + TABLE[2:] + (('z', 'cc'),))], [3])
        loose = (SOURCES[0][:3] + (False, ()), SOURCES[1])
        self.assert_same(lets_table((loose,) + SPLIT[1:], ALL, table), 4)
        builds = tuple(('ann', compiler, 'cc', (), file) for compiler in 'ab' for file in 'cd')
        book = (SOURCES, PARTIES, (), builds)
        table = (('a', 'cc'), ('b', 'cc'), ('c', 'cc'), ('d', 'cc'))
        self.assert_paper('parted', (0, 1), lets_table, book, ('ann',), table)
        self.assert_paper('parted', (0, 2), lets_table, without_build(book, 1), ('ann',), table)
        self.assert_same(lets_table(book, ('bob',), table), 4)

    def test_the_first_one_is_told(self):
        # A vouching that is missing, a moved fact, one unlike, and a clash, all at once.
        book = with_unlike(SPLIT, 'cc', 'tcc')
        table = (('x', 'cc'), ('x', 'tcc'), ('y', 'cc'), ('z', 'cc'))
        self.assert_paper('supposed', 0, lets_table, book, ALL, table, supposed=(('t', 'tcc'),))
        self.assert_paper('vouched', 2, lets_table, book, ALL, table)
        table = (('t', 'tcc'),) + table
        self.assert_paper('moved', (0, 2, 1), lets_table, book, ALL, table)
        table = tuple((file, source) for file in 'txyz' for source in ('cc', 'tcc'))
        self.assert_paper('unlike', 0, lets_table, book, ALL, table)
        self.assert_paper('parted', (1, 3), lets_table, SPLIT, ALL, table)

    def test_tables_by_the_rules(self):
        accepted = 0
        for seed in range(200):
            book = random_book(seed)
            trusted, supposed = party_names(book), random_facts(seed, book)
            facts = facts_of(book, trusted, supposed=supposed)
            found = told_of(book, trusted, facts, supposed)
            self.assert_same(found, plain_told(book, trusted, facts, supposed))
            self.assertEqual(found == len(facts), is_calm(book, trusted, supposed=supposed))
            accepted += found == len(facts)
        self.assertTrue(50 < accepted < 170)

    def test_changed_tables(self):
        words = {}
        for seed in range(500):
            dice = random.Random(seed)
            book = random_book(seed, files=4)
            trusted = tuple(name for name in party_names(book) if dice.random() < 0.6)
            supposed = random_facts(seed, book)
            facts = list(facts_of(book, trusted, supposed=supposed))
            for _ in range(12):
                for _ in range(dice.choice((0, 1, 1, 2, 3))):
                    fact = (dice.choice(('f0', 'f1', 'f2', 'f3', 'g')), dice.choice(source_names(book) + ('no',)))
                    if dice.random() < 0.5 and facts:
                        facts.pop(dice.randrange(len(facts)))
                    elif dice.random() < 0.9:
                        facts = sorted({*facts, fact})
                    else:
                        facts.insert(0, fact)
                thing = tuple(facts)
                found = told_of(book, trusted, thing, supposed)
                self.assert_same(found, plain_told(book, trusted, thing, supposed))
                if type(found) is int:
                    self.assertLessEqual(plain_facts(book, trusted, thing), set(thing))
                    self.assertEqual(plain_clashes(book, trusted, thing), set())
                words[type(found) is int or found[0]] = True
        self.assertEqual(words.keys(), {
            'order', 'fact', 'supposed', 'vouched', 'built', 'moved', 'unlike', 'parted', True})

    def test_parameters(self):
        for thing in NO_PARTY_SETS:
            self.assert_not_usable('trusted', lets_table, BOOK, thing, TABLE)
            self.assert_not_usable('trusted', lets_table, BOOK, thing, None, supposed=None)
        for thing in NO_FACT_SETS:
            self.assert_not_usable('supposed', lets_table, BOOK, ALL, TABLE, supposed=thing)
            self.assert_not_usable('supposed', lets_table, BOOK, ALL, None, supposed=thing)
