"""Promises [27] and [25]: the checker of steps, beside the words of both written out plainly."""

import random

from rebuiltby.bookchanges import with_unlike
from rebuiltby.bookclasses import Book
from rebuiltby.closing import clashes_of, facts_of
from rebuiltby.errors import InvalidPaper
from rebuiltby.stepchecker import lets_steps
from rebuiltby.stepsmaking import steps_to, steps_to_clash
from tests.books import ALL, BOOK, EARLY, EMPTY, LINKED, NO_NAMES, PARTIES, SOURCES, SPLIT, USED, BookCase
from tests.books import party_names, random_book, random_facts, subsets
from tests.test_closing import NO_FACT_SETS

TOLD = with_unlike(BOOK, 'cc', 'tcc')
CHAIN = (('vouched', 0), ('vouched', 2), ('built', 3, 1, ()), ('parted', 1, 4, 0, 2))
LOOSE = ((('cc', 'c', ('c',), False, ()), ('tcc', 'c', ('c',), True, ())), PARTIES, (), SPLIT[3])
BUILT = (('vouched', 0), ('built', 1, 0, ()), ('built', 2, 0, (1,)), ('built', 3, 0, (1, 2)))
FORMS = {'vouched': 'b', 'built': 'bij', 'moved': 'iii', 'supposed': 's', 'parted': 'bbii', 'unlike': 'ii'}


def is_plain_number(thing):
    """An int that is not negative, and no bool."""
    return type(thing) is int and thing >= 0


def plain_shape(thing):
    """Whether the thing is a nonempty tuple of tuples of the six forms."""
    if type(thing) is not tuple or thing == ():
        return False
    for step in thing:
        if type(step) is not tuple or step == () or type(step[0]) is not str or step[0] not in FORMS:
            return False
        if len(step) != 1 + len(FORMS[step[0]]):
            return False
        for sign, told in zip(FORMS[step[0]], step[1:]):
            if sign == 'j':
                if type(told) is not tuple or not all(map(is_plain_number, told)):
                    return False
            elif not is_plain_number(told):
                return False
    return True


def plain_fact(book, step, facts, supposed):
    """The fact of a step, () for a clash, None if something is not as in [25]."""
    rows = {source[0]: source for source in book[0]}
    build = lambda k: book[3][k]
    match step:
        case ('vouched', k):
            return (build(k)[4], build(k)[2]) if build(k)[1] is None else None
        case ('built', k, i, js):
            _, compiler, source, parts, file = build(k)
            if compiler is None or facts[i][0] != compiler or rows[source][1] not in rows[facts[i][1]][2]:
                return None
            if len(js) != len(parts) or any(facts[j] != (p, u) for j, p, u in zip(js, parts, rows[source][4])):
                return None
            return file, source
        case ('moved', i, j, l):
            if facts[i][1] != facts[j][1] or facts[j][0] != facts[l][0]:
                return None
            return facts[i][0], facts[l][1]
        case ('supposed', n):
            return supposed[n]
        case ('parted', k, m, i, j):
            one, other = build(k), build(m)
            if None in (one[1], other[1]) or one[2] != other[2] or one[3] != other[3] or one[4] == other[4]:
                return None
            right = facts[i][0] == one[1] and facts[j][0] == other[1] and facts[i][1] == facts[j][1]
            return () if right and rows[facts[i][1]][3] else None
        case ('unlike', i, j):
            (f, s), (g, t) = facts[i], facts[j]
            return () if f == g and ((s, t) in book[2] or (t, s) in book[2]) else None


def plain_told(book, thing, supposed):
    """What the checker is to tell: what it returns, or the fields of its error."""
    if not plain_shape(thing):
        return 'shape', -1
    facts, parties = [], set()
    for n, step in enumerate(thing):
        told = list(zip(FORMS[step[0]], step[1:]))
        earlier = [at for sign, at in told if sign == 'i'] + [at for sign, js in told if sign == 'j' for at in js]
        builds = [k for sign, k in told if sign == 'b']
        if any(at >= n for at in earlier) or step[0] == 'supposed' and step[1] >= len(supposed):
            return 'index', n
        if any(k >= len(book[3]) for k in builds):
            return 'build', n
        fact = plain_fact(book, step, facts, supposed)
        if fact is None:
            return 'rule', n
        if fact == () and n + 1 < len(thing):
            return 'last', n
        facts.append(fact)
        parties |= {book[3][k][0] for k in builds}
    return facts[-1], tuple(sorted(parties))


def told_of(book, thing, supposed):
    """What the checker tells: what it returns, or the fields of its error."""
    try:
        return lets_steps(book, thing, supposed=supposed)
    except InvalidPaper as error:
        return error.word, error.at


def changed_steps(dice, steps):
    """The steps with one of them left out, doubled, exchanged, or with one number or word changed."""
    rows = [list(step) for step in steps]
    at = dice.randrange(len(rows))
    way = dice.randrange(7)
    if way == 0:
        rows.pop(at)
    elif way == 1:
        rows.insert(dice.randrange(len(rows) + 1), list(rows[at]))
    elif way == 2:
        rows[at], rows[-1] = rows[-1], rows[at]
    elif way == 3:
        rows[at][0] = dice.choice(list(FORMS))
    elif way == 4 and type(rows[at][-1]) is tuple:
        js = list(rows[at][-1])
        js.insert(dice.randrange(len(js) + 1), dice.randrange(3))
        rows[at][-1] = tuple(js[dice.randrange(2):])
    else:
        k = dice.randrange(1, len(rows[at]))
        rows[at][k] = dice.choice((0, 1, 2, 3, 5, 8, 16, True, -1, None, ())) if way > 5 else dice.randrange(5)
    return tuple(tuple(row) for row in rows)


class StepCheckerTest(BookCase):

    def test_examples(self):
        self.assert_same(lets_steps(BOOK, steps_to(BOOK, ('bob', 'cy'), 'x', 'cc')), (('x', 'cc'), ('bob', 'cy')))
        self.assert_same(lets_steps(SPLIT, CHAIN), ((), ALL))

    def test_each_form(self):
        self.assert_same(lets_steps(BOOK, (('vouched', 2),)), (('t', 'tcc'), ('bob',)))
        self.assert_same(lets_steps(BOOK, (('supposed', 1),), supposed=(('q', 'cc'), ('r', 'tcc'))), (('r', 'tcc'), ()))
        self.assert_same(lets_steps(book=LINKED, thing=BUILT, supposed=()), (('a', 'app'), ('ann', 'bob')))
        supposed = (('x', 'tcc'),)
        moved = (('vouched', 0), ('supposed', 0), ('vouched', 2), ('moved', 2, 1, 0))
        self.assert_same(lets_steps(BOOK, moved, supposed=supposed), (('t', 'cc'), ('ann', 'bob')))
        for pair in ((0, 1), (1, 0)):
            clash = (('vouched', 0), ('supposed', 0), ('unlike', *pair))
            self.assert_same(lets_steps(TOLD, clash, supposed=supposed), ((), ('ann',)))
        self.assert_same(lets_steps(SPLIT, CHAIN[:3] + (('parted', 4, 1, 2, 0),)), ((), ALL))

    def test_steps_that_are_not_used(self):
        # All parties of all steps are told.
        self.assert_same(lets_steps(BOOK, (('vouched', 2), ('vouched', 0))), (('x', 'cc'), ('ann', 'bob')))
        self.assert_same(lets_steps(BOOK, (('vouched', 0), ('vouched', 0))), (('x', 'cc'), ('ann',)))
        self.assert_same(lets_steps(BOOK, (('vouched', 0), ('moved', 0, 0, 0))), (('x', 'cc'), ('ann',)))

    def test_shapes(self):
        for thing in NO_NAMES + (
                Book(), (Book(),), 'vouched', (('vouched', 0), Book()), (('vouched', 0), ()), (('vouched', 0), 'vouched'),
                [('vouched', 0)], (['vouched', 0],), (('vouched',),), (('vouched', 0, 0),), (('vouched', True),),
                (('vouched', '0'),), (('vouched', None),), (('vouched', -1),), (('Vouched', 0),), ((0, 'vouched'),),
                ((None, 0),), ((['vouched'], 0),), ((Book(), 0),), (('built', 0, 0),), (('built', 0, 0, 0),),
                (('built', 0, 0, [], ),), (('built', 0, (), ()),), (('built', 0, 0, (), ()),), (('built', 0, 0, (-1,)),),
                (('built', 0, 0, (True,)),), (('built', 0, 0, ((),)),), (('built',),), (('built', ()),), (('moved', 0, 0),),
                (('moved', 0, 0, 0, 0),), (('moved', 0, 0, None),), (('moved', 0, 0, ()),), (('supposed',),),
                (('supposed', 0, 0),), (('supposed', False),), (('supposed', ('x', 'cc')),), (('parted', 0, 0, 0),),
                (('parted', 0, 0, 0, 0, 0),), (('parted', 0, 0, 0, '0'),), (('unlike', 0),), (('unlike', 0, 0, 0),),
                (('unlike', -1, 0),), (('vouch', 0),), (('', 0),), ((),)):
            self.assert_paper('shape', -1, lets_steps, BOOK, thing)
        # The shape of a later step is looked at ahead of all else.
        self.assert_paper('shape', -1, lets_steps, BOOK, (('vouched', 99), ('unlike', 0)))

    def test_indexes(self):
        for step in (('built', 1, 1, ()), ('built', 1, 5, ()), ('built', 9, 1, ()), ('built', 1, 0, (1,)), ('built', 1, 0, (0, 7)),
                     ('moved', 1, 0, 0), ('moved', 0, 1, 0), ('moved', 0, 0, 1), ('parted', 9, 9, 1, 0), ('parted', 1, 4, 0, 1),
                     ('unlike', 1, 0), ('unlike', 0, 1), ('supposed', 0), ('supposed', 10 ** 60)):
            self.assert_paper('index', 1, lets_steps, BOOK, (('vouched', 0), step))
            self.assert_paper('index', 1, lets_steps, BOOK, (('vouched', 0), step, ('vouched', 99)))
        self.assert_paper('index', 0, lets_steps, BOOK, (('moved', 0, 0, 0),))
        self.assert_paper('index', 0, lets_steps, BOOK, (('supposed', 1),), supposed=(('q', 'cc'),))
        self.assert_paper('index', 0, lets_steps, EMPTY, (('supposed', 0),))

    def test_builds(self):
        for step in (('vouched', 5), ('vouched', 10 ** 60), ('built', 5, 0, ()), ('parted', 5, 1, 0, 0), ('parted', 1, 5, 0, 0)):
            self.assert_paper('build', 1, lets_steps, BOOK, (('vouched', 0), step))
        self.assert_paper('build', 0, lets_steps, EMPTY, (('vouched', 0),))

    def test_rules(self):
        two = CHAIN[:3]
        for steps, step in (
                ((), ('vouched', 1)), (two, ('vouched', 4)), (two, ('built', 0, 0, ())), (two, ('built', 3, 0, ())),
                (two, ('built', 4, 0, ())), (two, ('built', 1, 0, (0,))), (two, ('moved', 0, 1, 0)), (two, ('moved', 0, 0, 1)),
                (two, ('moved', 1, 0, 0)), (two, ('moved', 0, 2, 0)), (two, ('parted', 1, 4, 2, 0)), (two, ('parted', 4, 1, 0, 2)),
                (two, ('parted', 1, 1, 0, 0)), (two, ('parted', 1, 3, 0, 1)), (two, ('parted', 0, 4, 0, 2)),
                (two, ('parted', 1, 4, 0, 0)), (two, ('parted', 1, 4, 2, 2)), (two, ('unlike', 0, 0)), (two, ('unlike', 0, 1))):
            self.assert_paper('rule', len(steps), lets_steps, SPLIT, steps + (step,))
        # The source of the compilers is not steady; or it is told of two sources, one for each.
        self.assert_paper('rule', 3, lets_steps, LOOSE, CHAIN)
        supposed = (('x', 'tcc'),)
        self.assert_paper('rule', 3, lets_steps, SPLIT, (('supposed', 0), *CHAIN[1:]), supposed=supposed)
        self.assert_paper('rule', 2, lets_steps, BOOK, (('vouched', 0), ('supposed', 0), ('unlike', 0, 1)), supposed=supposed)
        self.assert_paper('rule', 2, lets_steps, TOLD, (('vouched', 0), ('vouched', 2), ('unlike', 0, 1)))

    def test_two_builds_of_different_sources(self):
        builds = (('ann', None, 'cc', (), 'x'), ('ann', 'x', 'cc', (), 'y'), ('ann', 'x', 'tcc', (), 'z'), ('bob', 'x', 'tcc', (), 'w'))
        book = (SOURCES, PARTIES, (), builds)
        self.assert_paper('rule', 1, lets_steps, book, (('vouched', 0), ('parted', 1, 2, 0, 0)))
        self.assert_same(lets_steps(book, (('vouched', 0), ('parted', 3, 2, 0, 0))), ((), ('ann', 'bob')))

    def test_supposed_facts_beyond_the_builds(self):
        told = (('q', 'cc'), ('r', 'cc'), ('s', 'tcc'))
        self.assert_same(lets_steps((SOURCES, PARTIES, (), BOOK[3][:2]), (('supposed', 2),), supposed=told), (('s', 'tcc'), ()))

    def test_rules_of_parts(self):
        for js in ((), (2,), (2, 1), (1, 1), (0, 2), (1, 2, 1), (1, 2, 2)):
            self.assert_paper('rule', 3, lets_steps, LINKED, BUILT[:3] + (('built', 3, 0, js),))
        for i in (1, 2):
            self.assert_paper('rule', 3, lets_steps, LINKED, BUILT[:3] + (('built', 3, i, (1, 2)),))
        # o is right for a source that compiles the language, too, but it is not the compiler.
        self.assert_paper('rule', 1, lets_steps, LINKED, (('vouched', 5), ('built', 1, 0, ())))

    def test_clashes_in_the_middle(self):
        self.assert_paper('last', 3, lets_steps, SPLIT, CHAIN + (('vouched', 0),))
        self.assert_paper('last', 3, lets_steps, SPLIT, CHAIN + CHAIN[3:])
        self.assert_paper('last', 3, lets_steps, SPLIT, CHAIN + (('vouched', 99),))
        told = (('vouched', 0), ('supposed', 0), ('unlike', 1, 0), ('moved', 2, 2, 2))
        self.assert_paper('last', 2, lets_steps, TOLD, told, supposed=(('x', 'tcc'),))

    def test_all_steps_that_are_made(self):
        shown = 0
        for seed in range(80):
            book = random_book(seed)
            supposed = random_facts(seed, book)
            for trusted in subsets(party_names(book)):
                for fact in facts_of(book, trusted, supposed=supposed):
                    steps = steps_to(book, trusted, *fact, supposed=supposed)
                    told, parties = lets_steps(book, steps, supposed=supposed)
                    self.assert_same(told, fact)
                    self.assertLessEqual(set(parties), set(trusted))
                    shown += 1
                if clashes_of(book, trusted, supposed=supposed):
                    told, parties = lets_steps(book, steps_to_clash(book, trusted, supposed=supposed), supposed=supposed)
                    self.assert_same(told, ())
                    self.assertLessEqual(set(parties), set(trusted))
        self.assertGreater(shown, 500)

    def test_changed_steps(self):
        words = {}
        for seed in range(400):
            dice = random.Random(seed)
            book = random_book(seed, sources=4, files=4)
            supposed = random_facts(seed, book, most=5)
            trusted = party_names(book)
            made = [steps_to(book, trusted, *fact, supposed=supposed) for fact in facts_of(book, trusted, supposed=supposed)]
            made += [steps_to_clash(book, trusted, supposed=supposed)] * 3
            for steps in made:
                for _ in range(8 if steps else 0):
                    told = changed_steps(dice, steps)
                    found = told_of(book, told, supposed)
                    self.assert_same(found, plain_told(book, told, supposed))
                    words[found[0] if type(found[0]) is str else found[0] == ()] = True
                    steps = told if dice.random() < 0.3 and plain_shape(told) else steps
        self.assertEqual(words.keys(), {'shape', 'index', 'build', 'rule', 'last', True, False})

    def test_what_is_accepted_is_shown(self):
        for seed in range(150):
            dice = random.Random(seed)
            book = random_book(seed, sources=3, files=3)
            supposed = random_facts(seed, book)
            for _ in range(60):
                steps = tuple(
                    (word, *[() if sign == 'j' else dice.randrange(4) for sign in FORMS[word]])
                    for word in dice.choices(list(FORMS), k=dice.randint(1, 4)))
                found = told_of(book, steps, supposed)
                self.assert_same(found, plain_told(book, steps, supposed))
                if type(found[0]) is tuple:
                    what, parties = found
                    if what:
                        self.assertIn(what, facts_of(book, parties, supposed=supposed))
                    else:
                        self.assertTrue(clashes_of(book, parties, supposed=supposed))

    def test_supposed(self):
        for thing in NO_FACT_SETS + (Book(),):
            self.assert_not_usable('supposed', lets_steps, BOOK, CHAIN, supposed=thing)
            self.assert_not_usable('supposed', lets_steps, BOOK, None, supposed=thing)
        self.assert_not_usable('supposed', lets_steps, EARLY, (), supposed=(('x', 'dd'),))
        self.assert_same(lets_steps((USED, (), (), ()), (('supposed', 0),), supposed=(('q', 'app'),)), (('q', 'app'), ()))
        self.assert_same(lets_steps((SOURCES, (), (), ()), (('supposed', 0),), supposed=(('q', 'cc'),)), (('q', 'cc'), ()))
