"""What the tests share: books, odd values, and the rules of [5] in their plainest form."""

import random
import unittest

SOURCES = (('cc', 'c', ('c',), True, ()), ('tcc', 'c', ('c',), True, ()))
PARTIES = (('ann', 1), ('bob', 1), ('cy', 1))
OWN = (('ann', None, 'cc', (), 'x'), ('cy', 'x', 'cc', (), 'x'))
MORE = (('bob', None, 'tcc', (), 't'), ('cy', 't', 'cc', (), 'y'), ('cy', 'y', 'cc', (), 'x'))
ALONE = (SOURCES, PARTIES, (), OWN)
BOOK = (SOURCES, PARTIES, (), OWN + MORE)
SPLIT = (SOURCES, PARTIES, (), OWN + MORE[:2] + (('cy', 'y', 'cc', (), 'z'),))
EARLY = (SOURCES, PARTIES, (), OWN + MORE[:1])
EMPTY = ((), (), (), ())
ALL = ('ann', 'bob', 'cy')

# Sources of two languages with uses: app is built with the files of lib and net, net with lib's.
USED = (
    ('app', 'c', (), False, ('lib', 'net')),
    ('cc', 'asm', ('c',), True, ()),
    ('lib', 'c', (), True, ()),
    ('net', 'c', (), True, ('lib',)),
    ('old', 'asm', ('asm', 'c'), False, ()),
)
WEIGHED = (('ann', 3), ('bob', 10 ** 60), ('cy', 1))
LINKED = (USED, WEIGHED, (('cc', 'old'), ('lib', 'net')), (
    ('ann', None, 'cc', (), 'k'),
    ('ann', 'k', 'lib', (), 'l'),
    ('bob', 'k', 'net', ('l',), 'n'),
    ('bob', 'k', 'app', ('l', 'n'), 'a'),
    ('cy', None, 'app', (), 'a'),
    ('cy', None, 'old', (), 'o'),
))


def nested(thing, deep, kind=tuple):
    """The thing inside so many tuples or lists."""
    for _ in range(deep):
        thing = kind((thing,))
    return thing


# Values of every kind, none of them a name.
NO_NAMES = (
    None, True, False, 0, 1, -1, 10 ** 60, -10 ** 60, '', 'A', 'Ab', 'aB', '1a', 'a-', 'a b', ' a', 'a ', 'a\n',
    '\n', '-', 'abcdefghi', 'a' * 4000, (), ('a',), [], ['a'], ('a', 'b'), (1, True), [None, [True, ()]],
    nested('a', 30), nested('a', 30, list), nested(True, 30), (0,) * 5000,
)
# Values of every kind, no numbers.
NO_NUMBERS = (None, True, False, -1, -10 ** 60, '', '0', '1', (), (0,), [], [1], nested(0, 30), nested(1, 30, list))


class BookCase(unittest.TestCase):
    """A test case that looks at the class of an error and at all its fields."""

    def assert_raises(self, error, fields, call, *args, **kwargs):
        """The call raises an error of exactly this class with exactly these fields."""
        with self.assertRaises(error) as caught:
            call(*args, **kwargs)
        self.assertIs(type(caught.exception), error)
        self.assert_same(vars(caught.exception), fields)

    def assert_same(self, one, other):
        """Both are equal, and of the same kinds all the way down: True is not 1."""
        self.assertEqual(one, other)
        self.assertEqual(repr(one), repr(other))

    def assert_paper(self, word, told_at, call, *args, **kwargs):
        """The call raises InvalidPaper with these fields."""
        from rebuiltby.errors import InvalidPaper
        self.assert_raises(InvalidPaper, {'word': word, 'at': told_at}, call, *args, **kwargs)

    def assert_not_usable(self, word, call, *args, told_at=-1, **kwargs):
        """The call raises NotUsable with these fields."""
        from rebuiltby.errors import NotUsable
        self.assert_raises(NotUsable, {'word': word, 'at': told_at}, call, *args, **kwargs)

    def assert_text(self, told_line, field, call, *args, **kwargs):
        """The call raises InvalidText with these fields."""
        from rebuiltby.errors import InvalidText
        self.assert_raises(InvalidText, {'line': told_line, 'field': field}, call, *args, **kwargs)


def subsets(names):
    """All sets of these ascending names."""
    return [tuple(name for k, name in enumerate(names) if mask >> k & 1) for mask in range(1 << len(names))]


def party_names(book):
    """The names of the parties."""
    return tuple(name for name, _ in book[1])


def source_names(book):
    """The names of the sources."""
    return tuple(source[0] for source in book[0])


def plain_facts(book, trusted, supposed=()):
    """The rules of [5], each applied as it is written until nothing new comes."""
    rows = {source[0]: source for source in book[0]}
    facts = set(supposed)
    while True:
        before = len(facts)
        for party, compiler, source, parts, file in book[3]:
            if party in trusted and compiler is None:
                facts.add((file, source))
            elif party in trusted:
                compiled = any((compiler, name) in facts and rows[source][1] in rows[name][2] for name in rows)
                if compiled and all(pair in facts for pair in zip(parts, rows[source][4])):
                    facts.add((file, source))
        for f, s in list(facts):
            for g, t in list(facts):
                if (g, s) in facts and (f, t) not in facts:
                    facts.add((f, t))
        if len(facts) == before:
            return facts


def plain_clashes(book, trusted, supposed=()):
    """The clashes of [5], each pair and each two builds looked at."""
    facts = plain_facts(book, trusted, supposed)
    clashes = set()
    for one, other in book[2]:
        for file in {file for file, _ in facts}:
            if (file, one) in facts and (file, other) in facts:
                clashes.add(('unlike', file, one, other))
    for k, (party, compiler, source, parts, file) in enumerate(book[3]):
        for m in range(k):
            row = book[3][m]
            if party in trusted and row[0] in trusted and None not in (compiler, row[1]):
                same = row[2] == source and row[3] == parts and row[4] != file
                if same and any(s[3] and {(compiler, s[0]), (row[1], s[0])} <= facts for s in book[0]):
                    clashes.add(('parted', m, k))
    return clashes


def random_book(seed, *, sources=5, parties=4, builds=12, files=6):
    """Some book, the same for each seed."""
    dice = random.Random(seed)
    names = [f's{n}' for n in range(dice.randint(1, sources))]
    rows = []
    for n, name in enumerate(names):
        compiles = tuple(sorted(dice.sample(['c', 'd'], dice.choice((0, 1, 1, 2)))))
        uses = tuple(sorted(dice.sample(names[:n], min(n, dice.choice((0, 0, 1, 2))))))
        rows.append((name, dice.choice('cd'), compiles, dice.random() < 0.7, uses))
    people = tuple((f'p{n}', dice.randint(1, 3)) for n in range(dice.randint(1, parties)))
    pairs = [(one, other) for one in names for other in names if one < other and dice.random() < 0.15]
    pool = [f'f{n}' for n in range(files)]
    said = []
    for _ in range(dice.randint(0, builds)):
        row = dice.choice(rows)
        party = dice.choice(people)[0]
        if dice.random() < 0.35:
            build = (party, None, row[0], (), dice.choice(pool))
        else:
            build = (party, dice.choice(pool), row[0], tuple(dice.choice(pool) for _ in row[4]), dice.choice(pool))
        if build not in said:
            said.append(build)
    return tuple(rows), people, tuple(pairs), tuple(said)


def random_facts(seed, book, most=3):
    """Some set of facts of the sources of the book, the same for each seed."""
    dice = random.Random(seed)
    names = source_names(book)
    facts = {(dice.choice(('f0', 'f1', 'f2', 'f3', 'g')), dice.choice(names)) for _ in range(dice.randint(0, most))}
    return tuple(sorted(facts))


def mutated(dice, thing, names):
    """The thing with something in it changed, left out or put in; names are what may stand in it."""
    if type(thing) is not tuple or dice.random() < 0.1:
        odd = (None, True, (), -1, 0, 1, 2, [thing], (thing,), dice.choice(names), dice.choice(names), dice.choice(names))
        if type(thing) is int:
            return dice.choice((thing + 1, thing - 1, thing + 1, thing - 1, dice.choice(odd)))
        return dice.choice(odd)
    k = dice.randrange(len(thing) + 1)
    way = dice.random()
    if k == len(thing) or way < 0.08:
        return thing[:k] + (dice.choice((*thing, (), dice.choice(names), dice.randrange(3))),) + thing[k:]
    if way < 0.2:
        return thing[:k] + thing[k + 1:]
    if way < 0.28:
        m = dice.randrange(len(thing))
        return tuple(thing[{k: m, m: k}.get(n, n)] for n in range(len(thing)))
    return thing[:k] + (mutated(dice, thing[k], names),) + thing[k + 1:]
