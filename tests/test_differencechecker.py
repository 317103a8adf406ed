"""Promise [59], as far as it speaks of lets_difference, beside its words written out plainly."""

import random

from rebuiltby.bookchanges import with_build, with_unlike, with_weight, without_build
from rebuiltby.bookclasses import Book
from rebuiltby.comparing import are_alike, difference
from rebuiltby.differencechecker import lets_difference
from rebuiltby.errors import InvalidPaper
from rebuiltby.kinds import is_fact
from rebuiltby.knowing import Knowledge
from tests.books import ALL, ALONE, BOOK, EARLY, EMPTY, LINKED, NO_NAMES, PARTIES, SOURCES, SPLIT, BookCase
from tests.books import mutated, party_names, random_book, source_names, subsets
from tests.test_closing import NO_FACT_SETS, NO_PARTY_SETS
from tests.test_comparing import TOLD, changed
from tests.test_numberchecker import plain_table
from tests.test_stepchecker import plain_told

PAPER = (1, ('bob',), (), ('t', 'tcc'), (('vouched', 2),), ())
ODD = NO_NAMES + (Book(), Book(*BOOK), Knowledge(BOOK))
# BOOK and SPLIT with a paper that tells of a clash in the second one.
CLASH = (1, ('cy',), (('t', 'tcc'), ('x', 'cc')), (), (
    ('supposed', 1), ('supposed', 0), ('built', 3, 1, ()), ('parted', 1, 4, 0, 2)), (('t', 'tcc'), ('x', 'cc'), ('y', 'cc')))


def plain_difference_told(book, other, thing):
    """The side that the checker is to return, or the fields of its error, by the words of [59]."""
    if type(thing) is not tuple or len(thing) != 6:
        return 'shape', -1
    side, trusted, supposed, what, steps, table = thing
    if type(side) is not int or side not in (0, 1):
        return 'side', -1
    if type(trusted) is not tuple or len(trusted) > 2 or trusted not in subsets(party_names(book)):
        return 'trusted', -1
    if type(supposed) is not tuple or len(supposed) > 3 or not all(is_fact(fact) for fact in supposed):
        return 'supposed', -1
    if supposed != tuple(sorted(set(supposed))) or not {source for _, source in supposed} <= set(source_names(book)):
        return 'supposed', -1
    mine, theirs = (book, other) if side == 0 else (other, book)
    shown = plain_told(mine, steps, supposed)
    if type(shown[0]) is str or not set(shown[1]) <= set(trusted):
        return 'steps', -1
    if type(what) is not tuple or shown[0] != what:
        return 'what', -1
    found = plain_table(theirs, trusted, table, supposed)
    if type(found) is tuple:
        return 'table', found
    return ('there', -1) if what in table else side


def told_of(book, other, thing):
    """What the checker tells: the side, or the fields of its error."""
    try:
        return lets_difference(book, other, thing)
    except InvalidPaper as error:
        return error.word, error.at


def with_place(thing, at, value):
    """The tuple with this value at this place."""
    return thing[:at] + (value,) + thing[at + 1:]


class DifferenceCheckerTest(BookCase):

    def assert_wrong(self, word, told_at, thing, book=ALONE, other=EARLY):
        """The checker raises InvalidPaper with these fields."""
        self.assert_paper(word, told_at, lets_difference, book, other, thing)
        self.assert_same(plain_difference_told(book, other, thing), (word, told_at))

    def test_examples(self):
        self.assert_same([are_alike(ALONE, EARLY), lets_difference(ALONE, EARLY, PAPER)], [False, 1])

    def test_accepted(self):
        self.assert_same(lets_difference(book=EARLY, other=ALONE, thing=(0,) + PAPER[1:]), 0)
        self.assert_same(lets_difference(BOOK, SPLIT, CLASH), 1)
        # More trusted parties, supposed facts, steps and facts of the table than are needed.
        more = (1, ('ann', 'bob'), (('q', 'cc'), ('r', 'cc')), ('t', 'tcc'), (('vouched', 0), ('supposed', 0), ('vouched', 2)),
                (('a', 'tcc'), ('q', 'cc'), ('r', 'cc'), ('x', 'cc')))
        self.assert_same(lets_difference(ALONE, EARLY, more), 1)
        self.assert_same(plain_difference_told(ALONE, EARLY, more), 1)

    def test_exchanged_books(self):
        self.assert_wrong('steps', -1, PAPER, EARLY, ALONE)
        self.assert_wrong('steps', -1, (0,) + PAPER[1:])
        # The third build of SPLIT is in BOOK, too, but the last ones differ.
        self.assert_wrong('steps', -1, CLASH, SPLIT, BOOK)
        self.assert_wrong('steps', -1, (0,) + CLASH[1:], BOOK, SPLIT)
        self.assert_same(lets_difference(SPLIT, BOOK, (0,) + CLASH[1:]), 0)
        # A fact of both books is none that parts them, on whichever side.
        for side in (0, 1):
            paper = (side, ('ann',), (), ('x', 'cc'), (('vouched', 0),), (('x', 'cc'),))
            self.assert_wrong('there', -1, paper, BOOK, EARLY)

    def test_shape(self):
        for thing in ODD + (PAPER[:5], PAPER + ((),), list(PAPER)):
            self.assert_wrong('shape', -1, thing)

    def test_side(self):
        for thing in NO_NAMES + (Book(), 2, -1, 10 ** 60, True, False, '0', (0,), 'book'):
            if type(thing) is bool or thing not in (0, 1):
                self.assert_wrong('side', -1, with_place(PAPER, 0, thing))
                self.assert_wrong('side', -1, (thing, None, None, None, None, None))

    def test_trusted(self):
        for thing in NO_PARTY_SETS + (ALL, ('cc',), 'bob'):
            self.assert_wrong('trusted', -1, with_place(PAPER, 1, thing))
            self.assert_wrong('trusted', -1, (0, thing, None, None, None, None))

    def test_supposed(self):
        for thing in NO_FACT_SETS + (tuple((file, 'cc') for file in 'abcd'),):
            self.assert_wrong('supposed', -1, with_place(PAPER, 2, thing))
            self.assert_wrong('supposed', -1, (0, (), thing, None, None, None))

    def test_steps(self):
        for thing in ODD + ((('vouched', 3),), (('vouched', 1),), (('supposed', 0),), ('vouched', 2), (('vouched', 2), ('vouched', 9))):
            self.assert_wrong('steps', -1, with_place(PAPER, 4, thing))
            self.assert_wrong('steps', -1, (1, (), (), None, thing, None))
        # bob is not trusted, or ann is not, whom the steps use although they need not.
        self.assert_wrong('steps', -1, with_place(PAPER, 1, ()))
        self.assert_wrong('steps', -1, with_place(PAPER, 1, ('ann', 'cy')))
        self.assert_wrong('steps', -1, with_place(PAPER, 4, (('vouched', 0), ('vouched', 2))))

    def test_what(self):
        for thing in ODD + ((), ('t',), ('t', 'cc'), ('x', 'cc'), ['t', 'tcc'], ('t', 'tcc', ())):
            self.assert_wrong('what', -1, with_place(PAPER, 3, thing))
            self.assert_wrong('what', -1, with_place(PAPER, 3, thing)[:5] + (None,))
        for thing in ODD + (('t', 'tcc'), ('x', 'cc')):
            if thing != ():
                self.assert_wrong('what', -1, with_place(CLASH, 3, thing), BOOK, SPLIT)

    def test_table(self):
        for thing in ODD:
            if thing != ():
                self.assert_wrong('table', ('shape', -1), with_place(PAPER, 5, thing))
        self.assert_wrong('table', ('order', 1), with_place(PAPER, 5, (('y', 'cc'), ('x', 'cc'))))
        self.assert_wrong('table', ('fact', 0), with_place(PAPER, 5, (('y', 'dd'),)))
        self.assert_wrong('table', ('vouched', 0), with_place(PAPER, 1, ('ann', 'bob')))
        self.assert_wrong('table', ('supposed', 1), with_place(CLASH, 5, CLASH[5][:1]), BOOK, SPLIT)
        self.assert_wrong('table', ('built', 3), with_place(CLASH, 5, CLASH[5][:2]), BOOK, SPLIT)
        self.assert_wrong('table', ('moved', (0, 2, 1)), with_place(PAPER, 5, (('q', 'tcc'), ('y', 'cc'), ('y', 'tcc'))))

    def test_there(self):
        self.assert_wrong('there', -1, with_place(PAPER, 5, (('t', 'tcc'),)))
        self.assert_wrong('there', -1, with_place(PAPER, 5, (('s', 'tcc'), ('t', 'tcc'))))

    def test_other(self):
        told = NO_NAMES + (
            'a', Book(), Book(*BOOK), list(BOOK), BOOK[:3], EMPTY, LINKED, with_weight(BOOK, 'ann', 2),
            with_unlike(BOOK, 'cc', 'tcc'), with_build(BOOK, BOOK[3][0]), (SOURCES, PARTIES[:2], (), ()), Knowledge(BOOK))
        for thing in told:
            self.assert_not_usable('other', lets_difference, BOOK, thing, PAPER)
            self.assert_not_usable('other', lets_difference, BOOK, other=thing, thing=None)

    def test_differences_that_are_made(self):
        told = {}
        for seed in range(150):
            book = random_book(seed, sources=4, parties=3, builds=9, files=4)
            other = changed(seed, book)
            paper = difference(book, other)
            if paper is not None:
                self.assert_same(lets_difference(book, other, paper), paper[0])
                self.assert_same(lets_difference(other, book, (1 - paper[0],) + paper[1:]), 1 - paper[0])
                told[paper[0], paper[3] == (), len(paper[2])] = True
        self.assertGreater(len(told), 6)
        less = without_build(TOLD, 3)
        self.assert_same(lets_difference(TOLD, less, difference(TOLD, less)), 0)

    def test_changed_differences(self):
        words = {}
        for seed in range(250):
            dice = random.Random(seed)
            book = random_book(seed, sources=3, parties=3, builds=9, files=3)
            other = changed(seed, book)
            paper = difference(book, other)
            names = party_names(book) + source_names(book) + ('f0', 'f1', 'f2', 'g', 'vouched', 'built', 'supposed')
            for _ in range(30 if paper else 0):
                thing = mutated(dice, paper, names)
                if dice.random() < 0.2:
                    fact = paper[3] if paper[3] and dice.random() < 0.7 else (dice.choice('fg') + '0', dice.choice(source_names(book)))
                    thing = paper[:5] + (tuple(sorted({*paper[5], fact})),)
                found = told_of(book, other, thing)
                self.assert_same(found, plain_difference_told(book, other, thing))
                if type(found) is int:
                    self.assertFalse(are_alike(book, other))
                words[type(found) is int or found[0]] = True
        self.assertEqual(words.keys(), {'shape', 'side', 'trusted', 'supposed', 'steps', 'what', 'table', 'there', True})

    def test_books_that_show_the_same_have_none(self):
        # Whatever is handed in for them is refused.
        for seed in range(60):
            dice = random.Random(seed)
            book = random_book(seed, sources=3, parties=2, builds=7, files=3)
            for k in range(len(book[3])):
                other = without_build(book, k)
                if are_alike(book, other):
                    for side in (0, 1):
                        for n, build in enumerate(book[3]):
                            what = (build[4], build[2])
                            supposed = ((build[1], dice.choice(source_names(book))),) if build[1] else ()
                            steps = (('vouched', n),) if build[1] is None else (('supposed', 0), ('built', n, 0, ()))
                            found = told_of(book, other, (side, (build[0],), supposed, what, steps, supposed))
                            self.assertIs(type(found), tuple)
