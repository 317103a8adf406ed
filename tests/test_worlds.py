"""Promises [31] to [33]: worlds, beside one that answers by the words of [31] written out plainly."""

import random

from rebuiltby.bookchanges import renamed
from rebuiltby.bookchecker import lets_book
from rebuiltby.bookclasses import Book
from rebuiltby.bookparts import files_of
from rebuiltby.errors import NotUsable
from rebuiltby.knowing import Knowledge
from rebuiltby.tablechecker import lets_table
from rebuiltby.tablemaking import table_of
from rebuiltby.worlds import World
from tests.books import ALL, BOOK, EARLY, EMPTY, LINKED, NO_NAMES, PARTIES, SOURCES, SPLIT, BookCase
from tests.books import party_names, plain_facts, random_book, random_facts
from tests.test_closing import NO_PARTY_SETS
from tests.test_ordering import likely_book

TABLE = (('t', 'tcc'), ('x', 'cc'), ('y', 'cc'))
ROW = ('bob', 't', 'cc', ())
LOOSE = ((('cc', 'c', ('c',), False, ()), ('tcc', 'c', ('c',), False, ())),) + BOOK[1:]
OBJECTS = (Book(), Book(*BOOK), Knowledge(BOOK), World(EMPTY, (), ()))


class PlainWorld:
    """Answers by the words of [31], with all sources of a file looked up whenever they are needed."""

    def __init__(self, book, bad, table):
        self.book = book
        self.bad = bad
        self.facts = set(table)
        self.rows = {source[0]: source for source in book[0]}
        self.telling = [build for build in book[3] if build[0] not in bad and build[1] is not None]
        self.given = 0

    def sources(self, file):
        return {source for shown, source in self.facts if shown == file}

    def give(self, party, compiler, source, parts):
        mine = self.sources(compiler)
        file = None
        if any(self.rows[name][3] for name in mine):
            told = {build[4] for build in self.telling if build[2:4] == (source, parts) and self.sources(build[1]) == mine}
            assert len(told) < 2, told
            file = told.pop() if told else None
        if file is None:
            taken = {*files_of(self.book), *[shown for shown, _ in self.facts], compiler, *parts}
            file = [name for name in [f'n{n}' for n in range(200)] if name not in taken][0]
            compiled = any(self.rows[source][1] in self.rows[name][2] for name in mine)
            if compiled and all((part, use) in self.facts for part, use in zip(parts, self.rows[source][4])):
                near = {other for shown, other in self.facts if (shown, source) in self.facts}
                self.facts |= {(file, name) for name in near | {source}}
        build = (party, compiler, source, parts, file)
        self.telling.append(build)
        if build not in self.book[3]:
            self.book = self.book[:3] + (self.book[3] + (build,),)
        self.given += 1
        return file


def random_row(dice, book, files, table=()):
    """Some row for the book, of these files, more likely of those that the table has right for something."""
    source = dice.choice(book[0])
    likely = [file for file, _ in table] or files
    compiler = dice.choice(likely if dice.random() < 0.7 else files)
    parts = [[file for file, name in table if name == use and dice.random() < 0.9] or files for use in source[4]]
    return dice.choice(party_names(book)), compiler, source[0], tuple(dice.choice(row) for row in parts)


def some_worlds(seeds):
    """Triples of a book, bad parties and a table for the others, which may have more than they show."""
    found = []
    for seed in seeds:
        dice = random.Random(seed)
        book = likely_book(seed) if seed % 2 else random_book(seed, sources=4, parties=3, builds=10, files=4)
        bad = tuple(name for name in party_names(book) if dice.random() < 0.3)
        others = tuple(name for name in party_names(book) if name not in bad)
        table = table_of(book, others, supposed=random_facts(seed, book, most=4))
        if table is not None:
            found.append((book, bad, table))
    return found


class WorldCase(BookCase):

    def state(self, world):
        """All that can be asked of a world."""
        files = files_of(world.book_now) + ('n0', 'n7', 'q')
        return world.bad, world.book_now, world.table_now, len(world), [world[file] for file in files]

    def assert_table(self, world, before):
        """The table is one of the book now, and tells of old files what it told at first."""
        others = tuple(name for name in party_names(world.book_now) if name not in world.bad)
        self.assert_same(lets_table(world.book_now, others, world.table_now), len(world.table_now))
        old = {*files_of(before[0]), *[file for file, _ in before[1]]}
        self.assert_same(tuple(fact for fact in world.table_now if fact[0] in old), before[1])
        lets_book(world.book_now)


class WorldTest(WorldCase):

    def test_example(self):
        world = World(BOOK, ('ann',), TABLE)
        told = [world.give('bob', 't', 'cc', ()), world.give('bob', 't', 'tcc', ()), world.is_right('n0', 'tcc')]
        self.assert_same(told + [world.give('ann', 'q', 'cc', ())], ['y', 'n0', True, 'n1'])

    def test_a_new_world(self):
        for world in (World(BOOK, ('ann',), TABLE), World(book=BOOK, bad=('ann',), table=TABLE)):
            self.assert_same((world.bad, world.book_now, world.table_now, len(world)), (('ann',), BOOK, TABLE, 0))
            self.assert_same([world['x'], world['t'], world['q'], world['n0']], [('cc',), ('tcc',), (), ()])
        for name in ('bad', 'book_now', 'table_now'):
            with self.assertRaises(AttributeError):
                setattr(world, name, ())
        table = tuple((file, source) for file in 'tx' for source in ('cc', 'tcc'))
        world = World(LOOSE[:3] + (LOOSE[3][:1],), (), table)
        self.assert_same([world['t'], world['x']], [('cc', 'tcc'), ('cc', 'tcc')])

    def test_answers(self):
        world = World(BOOK, (), TABLE)
        # By builds of the book, whoever asks; x and y are both right for cc alone.
        for party in ALL:
            for compiler, file in (('x', 'x'), ('y', 'x'), ('t', 'y')):
                self.assert_same(world.give(party, compiler, 'cc', ()), file)
        self.assert_same(len(world), 9)
        more = tuple(row for row in world.book_now[3] if row not in BOOK[3])
        self.assert_same(world.book_now, BOOK[:3] + (BOOK[3] + more,))
        self.assert_same(more, tuple(
            (party, compiler, 'cc', (), file) for party in ALL for compiler, file in (('x', 'x'), ('y', 'x'), ('t', 'y'))
            if (party, compiler, 'cc', (), file) not in BOOK[3]))
        self.assert_same(world.table_now, TABLE)
        # By rows that were given before, for a compiler with the same sources.
        self.assert_same([world.give('ann', 'x', 'tcc', ()), world.give('bob', 'y', 'tcc', ()), world.give('cy', 't', 'tcc', ())],
                         ['n0', 'n0', 'n1'])
        self.assert_same(world.table_now, (('n0', 'tcc'), ('n1', 'tcc')) + TABLE)
        self.assert_same([world.give('ann', 'n0', 'tcc', ()), world.give('ann', 'n1', 'cc', ()), world['n0']], ['n1', 'y', ('tcc',)])

    def test_rows_given_again(self):
        world = World(EARLY, (), (('t', 'tcc'), ('x', 'cc')))
        self.assert_same([world.give(*ROW) for _ in range(3)], ['n0', 'n0', 'n0'])
        self.assert_same([len(world), world.book_now[3]], [3, EARLY[3] + (ROW + ('n0',),)])
        self.assert_same([world.give('cy', 'x', 'cc', ()), len(world), world.book_now[3][3:]], ['x', 4, (ROW + ('n0',),)])
        # Nothing is known of q, so each answer is another one.
        self.assert_same([world.give('cy', 'q', 'cc', ()) for _ in range(2)], ['n1', 'n2'])
        self.assert_same([len(world), len(world.book_now[3]), world['n1'], world['n2']], [6, 6, (), ()])

    def test_no_steady_source(self):
        world = World(LOOSE, (), TABLE)
        self.assert_same([world.give('cy', 't', 'cc', ()) for _ in range(3)], ['n0', 'n1', 'n2'])
        self.assert_same(world.table_now, (('n0', 'cc'), ('n1', 'cc'), ('n2', 'cc')) + TABLE)
        # One steady source of several is enough.
        sources = (LOOSE[0][0], SOURCES[1])
        table = tuple((file, source) for file in 'txy' for source in ('cc', 'tcc'))
        book = (sources, PARTIES, (), BOOK[3][:4])
        self.assert_paper('parted', (1, 3), World, book, (), table)
        world = World((sources, PARTIES, (), BOOK[3][:3]), (), table)
        self.assert_same([world.give('cy', 't', 'cc', ()), world.give('ann', 'y', 'cc', ())], ['x', 'x'])
        self.assert_same([world.give('cy', 't', 'tcc', ()), world['n0']], ['n0', ('cc', 'tcc')])

    def test_builds_of_bad_parties(self):
        # cy is bad: the builds of cy tell nothing, and what cy says may differ from the answer.
        world = World(BOOK, ('cy',), (('t', 'tcc'), ('x', 'cc'), ('y', 'cc')))
        self.assert_same([world.give('cy', 'x', 'cc', ()), world.give('cy', 't', 'cc', ())], ['n0', 'n1'])
        self.assert_same(world.book_now[3][5:], (('cy', 'x', 'cc', (), 'n0'), ('cy', 't', 'cc', (), 'n1')))
        # The rows that were given tell, those of bad parties too.
        self.assert_same([world.give('ann', 'y', 'cc', ()), world.give('bob', 't', 'cc', ())], ['n0', 'n1'])
        self.assertEqual(lets_table(world.book_now, ('ann', 'bob'), world.table_now), 5)
        # An answer that the bad party has told already is no further build.
        told = BOOK[:3] + (BOOK[3] + (('cy', 'x', 'tcc', (), 'n7'),),)
        world = World(told, ('cy',), TABLE)
        self.assert_same([world.give('cy', 'x', 'tcc', ()), len(world.book_now[3])], ['n0', 7])
        world = World(renamed(told, files=(('n7', 'q'),)), ('cy',), TABLE)
        self.assert_same([world.give('ann', 'x', 'tcc', ()), world['n0']], ['n0', ('tcc',)])

    def test_parts(self):
        table = (('a', 'app'), ('k', 'cc'), ('l', 'lib'), ('n', 'net'), ('o', 'old'))
        world = World(LINKED, ('bob',), table)
        self.assert_same([world.give('cy', 'k', 'net', ('l',)), world.give('cy', 'k', 'net', ('l',)), world['n0']], ['n0', 'n0', ('net',)])
        # With a part that is not right for its use the answer is right for nothing, but it is kept.
        self.assert_same([world.give('cy', 'k', 'app', ('n', 'l')), world['n1']], ['n1', ()])
        self.assert_same([world.give('ann', 'k', 'app', ('n', 'l')), world.give('ann', 'k', 'app', ('l', 'n'))], ['n1', 'n2'])
        self.assert_same([world['n2'], world.give('bob', 'k', 'app', ('l', 'n0'))], [('app',), 'n3'])
        # k compiles no asm; o does, and c as well, but it is not steady.
        self.assert_same([world.give('bob', 'k', 'cc', ()), world['n4'], world.give('bob', 'o', 'cc', ())], ['n4', (), 'n5'])
        self.assert_same([world['n5'], world.give('bob', 'n5', 'lib', ()), world.give('ann', 'o', 'lib', ())], [('cc',), 'l', 'n6'])
        world = World(LINKED, (), table)
        self.assert_same([world.give('cy', 'k', 'net', ('l',)), world.give('cy', 'k', 'app', ('l', 'n'))], ['n', 'a'])

    def test_sources_of_fresh_files(self):
        table = (('p', 'cc'), ('q', 'cc'), ('q', 'tcc'), ('t', 'tcc'))
        self.assert_paper('moved', (0, 1, 2), World, (SOURCES, PARTIES, (), ()), (), table)
        table = (('p', 'cc'), ('p', 'tcc'))
        third = (SOURCES + (('zcc', 'c', (), True, ()),), PARTIES, (), ())
        world = World(third, (), table)
        self.assert_same([world.give('ann', 'p', 'cc', ()), world['n0']], ['n0', ('cc', 'tcc')])
        self.assert_same([world.give('ann', 'p', 'zcc', ()), world['n1']], ['n1', ('zcc',)])
        self.assert_same([world.give('ann', 'n0', 'zcc', ()), world.give('ann', 'n1', 'zcc', ())], ['n1', 'n2'])
        self.assert_same([world['n2'], world.give('bob', 'n1', 'zcc', ()), world.give('bob', 'n2', 'zcc', ())], [(), 'n2', 'n3'])

    def test_fresh_names(self):
        # Names of files of the book, of the table, and of the row itself are taken.
        book = EARLY[:3] + (EARLY[3] + (('cy', 'n0', 'cc', (), 'n2'),),)
        table = (('n4', 'cc'), ('t', 'tcc'), ('x', 'cc'))
        world = World(book, ('cy',), table)
        self.assert_same([world.give('bob', 't', 'cc', ()), world.give('bob', 'n3', 'cc', ())], ['n1', 'n5'])
        self.assert_same([world.give('bob', 'n6', 'cc', ()), world.give('bob', 'n9', 'cc', ()), world.give('bob', 'n6', 'cc', ())],
                         ['n7', 'n8', 'n10'])
        world = World(LINKED, ALL, (('k', 'cc'),))
        self.assert_same([world.give('ann', 'k', 'app', ('n0', 'n1')), world.give('ann', 'n3', 'app', ('n4', 'n4'))], ['n2', 'n5'])
        # What was the compiler of a row is a file of the book from then on.
        self.assert_same([file in files_of(world.book_now) for file in ('n0', 'n1', 'n3', 'n4')], [True] * 4)
        self.assert_same(world.table_now, (('k', 'cc'),))
        # Names of sources and parties are not taken: they are of other kinds.
        book = ((SOURCES[0], ('n0', 'c', ('c',), True, ())), (('n0', 1), ('n1', 1)), (), ())
        self.assert_same(World(book, (), ()).tried((('n1', 'x', 'n0', ()), ('n0', 'x', 'cc', ()))), ('n0', 'n1'))

    def test_is_right(self):
        world = World(BOOK, ('ann',), TABLE)
        for file in ('x', 'y', 't', 'q', 'n0'):
            for source in ('cc', 'tcc'):
                self.assert_same(world.is_right(file, source), (file, source) in TABLE)
                self.assert_same(world.is_right(source=source, file=file), (file, source) in TABLE)

    def test_by_the_rules(self):
        known, fresh, right = 0, 0, 0
        for book, bad, table in some_worlds(range(140)):
            dice = random.Random(5)
            world, plain = World(book, bad, table), PlainWorld(book, bad, table)
            for _ in range(12):
                files = files_of(plain.book) + ('n0', 'n1', 'q')
                row = random_row(dice, book, files, world.table_now)
                old = {*files_of(plain.book), *[file for file, _ in plain.facts]}
                told = world.give(*row)
                self.assert_same(told, plain.give(*row))
                self.assert_same((world.book_now, len(world)), (plain.book, plain.given))
                self.assert_same(world.table_now, tuple(sorted(plain.facts)))
                known += told in old
                fresh += told not in old
                right += told not in old and bool(world[told])
            self.assert_table(world, (book, table))
            for file in files_of(plain.book):
                self.assert_same(world[file], tuple(sorted(plain.sources(file))))
        self.assertTrue(known > 100 and fresh > 300 and right > 100, (known, fresh, right))

    def test_the_table_holds(self):
        # The table stays one after each single row, and is never less than what the others show.
        for book, bad, table in some_worlds(range(200, 240)):
            dice = random.Random(6)
            world = World(book, bad, table)
            others = tuple(name for name in party_names(book) if name not in bad)
            for _ in range(8):
                world.give(*random_row(dice, book, files_of(world.book_now) + ('n0',), world.table_now))
                self.assert_table(world, (book, table))
                self.assertLessEqual(plain_facts(world.book_now, others), set(world.table_now))


class CopyTest(WorldCase):

    def test_copies(self):
        world = World(BOOK, ('ann',), TABLE)
        world.give(*ROW)
        world.give('cy', 'x', 'tcc', ())
        other = world.copy()
        self.assertIs(type(other), World)
        self.assertIsNot(other, world)
        self.assertEqual(self.state(other), self.state(world))
        before = self.state(world)
        self.assert_same([other.give('cy', 't', 'tcc', ()), len(other), len(world)], ['n1', 3, 2])
        self.assertEqual(self.state(world), before)
        changed = self.state(other)
        self.assert_same([world.give('cy', 'q', 'cc', ()), world.give('cy', 't', 'tcc', ())], ['n1', 'n2'])
        self.assertEqual(self.state(other), changed)

    def test_a_copy_answers_alike(self):
        for book, bad, table in some_worlds(range(300, 340)):
            dice = random.Random(7)
            world = World(book, bad, table)
            for _ in range(4):
                world.give(*random_row(dice, book, files_of(world.book_now) + ('n0',)))
            other = world.copy().copy()
            rows = [random_row(dice, book, files_of(world.book_now) + ('n0', 'n9'), world.table_now) for _ in range(5)]
            self.assert_same([world.give(*row) for row in rows], [other.give(*row) for row in rows])
            self.assertEqual(self.state(world), self.state(other))

    def test_tried(self):
        for book, bad, table in some_worlds(range(400, 450)):
            dice = random.Random(8)
            world = World(book, bad, table)
            world.give(*random_row(dice, book, files_of(book) + ('q',)))
            before = self.state(world)
            rows = tuple(random_row(dice, book, files_of(book) + ('n0', 'n1'), table) for _ in range(5))
            told = world.tried(rows)
            self.assert_same([world.tried(rows=rows), world.tried(rows[:2])], [told, told[:2]])
            self.assertEqual(self.state(world), before)
            self.assert_same(tuple(world.give(*row) for row in rows), told)
        self.assert_same(world.tried(()), ())

    def test_tried_with_errors(self):
        world = World(BOOK, ('ann',), TABLE)
        world.give('cy', 'q', 'cc', ())
        before = self.state(world)
        for thing in NO_NAMES + OBJECTS + (list((ROW,)), ROW[0], None):
            if type(thing) is not tuple:
                self.assert_not_usable('rows', world.tried, thing)
        for thing in NO_NAMES + OBJECTS + (ROW[:3], ROW + ('y',), list(ROW)):
            if not (type(thing) is tuple and len(thing) == 4):
                self.assert_not_usable('rows', world.tried, (thing,), told_at=0)
                self.assert_not_usable('rows', world.tried, (ROW, thing, None), told_at=1)
                # Before any row is given, also one that is not possible.
                self.assert_not_usable('rows', world.tried, (('dan', 't', 'cc', ()), ROW, thing), told_at=2)
        self.assert_not_usable('compiler', world.tried, (ROW, ('bob', None, 'cc', ()), ('dan', 't', 'cc', ())))
        self.assert_not_usable('party', world.tried, (ROW, ('dan', None, 'cc', ()), ROW))
        self.assert_not_usable('parts', world.tried, (ROW, ('bob', 'x', 'cc', ('x',))))
        self.assertEqual(self.state(world), before)


class ErrorsTest(WorldCase):

    def test_bad(self):
        for thing in NO_PARTY_SETS + OBJECTS:
            self.assert_not_usable('bad', World, BOOK, thing, TABLE)
            self.assert_not_usable('bad', World, BOOK, bad=thing, table=None)

    def test_table(self):
        for thing in NO_NAMES + OBJECTS:
            if thing != ():
                self.assert_paper('shape', -1, World, BOOK, ALL, thing)
        self.assert_paper('vouched', 0, World, BOOK, (), ())
        self.assert_paper('vouched', 2, World, BOOK, ('ann',), ())
        self.assert_paper('built', 3, World, BOOK, ('ann',), TABLE[:2])
        self.assert_paper('order', 1, World, BOOK, ALL, TABLE[::-1])
        self.assert_paper('fact', 0, World, BOOK, ALL, (('x', 'dd'),))
        self.assert_paper('parted', (1, 4), World, SPLIT, (), TABLE + (('z', 'cc'),))
        self.assert_same(World(SPLIT, ('cy',), TABLE).table_now, TABLE)

    def test_rows(self):
        world = World(LINKED, ('ann',), (('a', 'app'), ('o', 'old')))
        before = self.state(world)
        for thing in NO_NAMES + OBJECTS + ('dan', 'cc', 'k'):
            self.assert_not_usable('party', world.give, thing, None, None, None)
            self.assert_not_usable('party', world.give, thing, 'k', 'lib', ())
        for thing in NO_NAMES + OBJECTS:
            self.assert_not_usable('compiler', world.give, 'ann', thing, None, None)
            self.assert_not_usable('compiler', world.give, 'ann', thing, 'lib', ())
            self.assert_not_usable('compiler', world.give, parts=(), source='lib', compiler=thing, party='ann')
        for thing in NO_NAMES + OBJECTS + ('dd', 'ann', 'k', 'c'):
            self.assert_not_usable('source', world.give, 'ann', 'k', thing, None)
            self.assert_not_usable('source', world.give, 'ann', 'k', thing, ())
        for thing in NO_NAMES + OBJECTS + (('k',), ('k', 'l', 'n'), ['k', 'l'], ('k', None), ('k', 'L'), ('k', ('l',)), 'kl', ('k', 1)):
            if thing != ('a', 'b'):
                self.assert_not_usable('parts', world.give, 'ann', 'k', 'app', thing)
        for thing in (('k',), None, [], '', Book(), ((),)):
            self.assert_not_usable('parts', world.give, 'ann', 'k', 'lib', thing)
        self.assertEqual(self.state(world), before)
        self.assert_same(world.give(parts=('k', 'l'), source='app', compiler='k', party='ann'), 'n0')

    def test_files_and_sources(self):
        world = World(BOOK, (), TABLE)
        for thing in NO_NAMES + OBJECTS + ((), ('x',)):
            self.assert_not_usable('file', world.is_right, thing, thing)
            self.assert_not_usable('file', world.is_right, file=thing, source='cc')
            self.assert_not_usable('file', lambda: world[thing])
        for thing in NO_NAMES + OBJECTS + ('dd', 'x', 'ann', 'c'):
            self.assert_not_usable('source', world.is_right, 'x', thing)
        self.assert_not_usable('file', lambda: world['x', 'cc'])
        self.assert_not_usable('file', lambda: world[0:1])

    def test_iteration(self):
        world = World(BOOK, (), TABLE)
        for call in (iter, list, tuple, sorted, set):
            self.assertRaises(TypeError, call, world)
        with self.assertRaises(TypeError):
            for _ in world:
                pass

    def test_empty(self):
        world = World(EMPTY, (), ())
        self.assert_same((world.book_now, world.table_now, len(world), world['x']), (EMPTY, (), 0, ()))
        self.assert_not_usable('party', world.give, 'ann', 'x', 'cc', ())
        world = World((SOURCES, PARTIES[:1], (), ()), (), ())
        self.assert_same([world.give('ann', 'x', 'cc', ()), world.give('ann', 'n0', 'cc', ()), world.table_now], ['n0', 'n1', ()])
        with self.assertRaises(NotUsable):
            world.give('bob', 'x', 'cc', ())
