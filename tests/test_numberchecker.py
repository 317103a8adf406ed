"""Promises [44] to [46]: papers of numbers and their checker, beside its words written out plainly."""

import random

from rebuiltby.bookchanges import with_unlike, with_weight
from rebuiltby.bookclasses import Book
from rebuiltby.claimnumbers import base_of, right_of, wrong_of
from rebuiltby.errors import InvalidPaper
from rebuiltby.kinds import is_fact
from rebuiltby.knowing import Knowledge
from rebuiltby.numberchecker import lets_number
from rebuiltby.numberpapers import number_paper
from rebuiltby.stepchecker import lets_steps
from tests.books import ALL, ALONE, BOOK, EMPTY, LINKED, MORE, NO_NAMES, PARTIES, SOURCES, SPLIT, BookCase
from tests.books import mutated, party_names, plain_clashes, plain_facts, random_book, source_names, subsets
from tests import test_stepchecker, test_tablechecker

WHATS = ('base', 'wrong', 'right')
NO_WHATS = NO_NAMES + ('bas', 'Base', 'wrongs', 'number', ('base',), ['wrong'], Book(), Knowledge(BOOK))
ODD = NO_NAMES + (Book(), Knowledge(BOOK), ((), ()), ((), (), (), ()), [(), (), ()])
SHOWN = ((('vouched', 0),), (('ann', ()),))
PAPER = (('ann',), (), SHOWN)
# x is right without bob and cy, and without ann, but not without ann and one of the others.
BY_ANN = (('vouched', 0),)
BY_BOTH = (('vouched', 2), ('built', 3, 0, ()), ('built', 4, 1, ()))
TREE = (BY_ANN, (('ann', (BY_BOTH, (('bob', ()), ('cy', ())))),))
DOUBLE = (('ann', 'bob'), (), TREE)
CLASH = (('vouched', 0), ('vouched', 2), ('built', 3, 1, ()), ('parted', 1, 4, 0, 2))
SPLIT_PAPER = (('cy',), (('t', 'tcc'), ('x', 'cc')), (CLASH, (('ann', ()), ('bob', ()), ('cy', ()))))


def terms(what, claim):
    """What is supposed, and what is to stay unshown, for a number."""
    return (claim,) if what == 'right' else (), claim if what == 'wrong' else None


def plain_table(book, trusted, thing, supposed):
    """What the checker of tables is to tell of any value."""
    if type(thing) is not tuple or not all(is_fact(fact) for fact in thing):
        return 'shape', -1
    return test_tablechecker.plain_told(book, trusted, thing, supposed)


def plain_number(book, what, claim, thing):
    """The number that the checker is to return, or the fields of its error, by the words of [45]."""
    supposed, unshown = terms(what, claim)
    if type(thing) is not tuple or len(thing) != 3:
        return 'shape', -1
    bad, table, tree = thing
    if type(bad) is not tuple or bad not in subsets(party_names(book)):
        return 'bad', -1
    found = plain_table(book, tuple(name for name in party_names(book) if name not in bad), table, supposed)
    if type(found) is tuple:
        return 'table', found
    if unshown in table:
        return 'claim', -1
    weights = dict(book[1])
    least = sum(weights[name] for name in bad)
    ahead = [(tree, ())]
    while ahead:
        node, path = ahead.pop(0)
        if sum(weights[name] for name in path) >= least:
            if type(node) is not tuple or node != ():
                return 'heavy', path
            continue
        if type(node) is not tuple or len(node) != 2:
            return 'heavy', path
        steps, branches = node
        shown = test_stepchecker.plain_told(book, steps, supposed)
        if type(shown[0]) is str:
            return 'steps', path
        if shown[0] not in ((), unshown):
            return 'target', path
        if set(shown[1]) & set(path):
            return 'used', path
        pairs = type(branches) is tuple and all(type(branch) is tuple and len(branch) == 2 for branch in branches)
        if not pairs or tuple(name for name, _ in branches) != shown[1]:
            return 'branches', path
        ahead = [(below, path + (name,)) for name, below in branches] + ahead
    return least


def told_of(book, what, claim, thing):
    """What the checker tells: the number, or the fields of its error."""
    try:
        return lets_number(book, what, thing, file=claim[0], source=claim[1])
    except InvalidPaper as error:
        return error.word, error.at


def number_of(book, what, claim):
    """The number that what names."""
    return {'base': lambda: base_of(book), 'wrong': lambda: wrong_of(book, *claim), 'right': lambda: right_of(book, *claim)}[what]()


def tree_nodes(tree, path=()):
    """Pairs of the path and the node for each node of a tree."""
    found = [(path, tree)]
    for name, below in tree[1] if tree else ():
        found += tree_nodes(below, path + (name,))
    return found


def with_node(tree, path, node):
    """The tree with this node at this path."""
    if not path:
        return node
    return tree[0], tuple((name, with_node(below, path[1:], node) if name == path[0] else below) for name, below in tree[1])


class PapersTest(BookCase):

    def check(self, book, what, claim):
        """The paper that is made is one by the words of [44]."""
        paper = number_paper(book, what, file=claim[0], source=claim[1])
        supposed, unshown = terms(what, claim)
        bad, table, tree = paper
        number = number_of(book, what, claim)
        weights = dict(book[1])
        self.assertIn(bad, subsets(party_names(book)))
        self.assertEqual(sum(weights[name] for name in bad), number)
        others = tuple(name for name in party_names(book) if name not in bad)
        self.assertEqual(plain_facts(book, others, table), set(table))
        self.assertEqual(plain_clashes(book, others, table), set())
        self.assertLessEqual(set(supposed), set(table))
        self.assertNotIn(unshown, table)
        nodes = tree_nodes(tree)
        for path, node in nodes:
            if sum(weights[name] for name in path) >= number:
                self.assert_same(node, ())
            else:
                shown, parties = lets_steps(book, node[0], supposed=supposed)
                self.assertIn(shown, ((), unshown))
                self.assertFalse(set(parties) & set(path))
                self.assert_same(tuple(name for name, _ in node[1]), parties)
        # For each lighter set some path in it leads to steps without its parties.
        for names in subsets(party_names(book)):
            if sum(weights[name] for name in names) < number:
                self.assertTrue(any(
                    node and set(path) <= set(names) and not {name for name, _ in node[1]} & set(names) for path, node in nodes))
        self.assert_same(told_of(book, what, claim, paper), number)
        self.assert_same(plain_number(book, what, claim, paper), number)
        return number

    def test_examples(self):
        self.assert_same(lets_number(ALONE, 'wrong', (('ann',), (), SHOWN), file='x', source='cc'), 1)
        self.assert_same(lets_number(ALONE, 'base', ((), (('x', 'cc'),), ())), 0)
        self.assert_paper('heavy', (), lets_number, ALONE, 'wrong', (('ann',), (), ()), file='x', source='cc')

    def test_papers(self):
        for book in (ALONE, BOOK, SPLIT, LINKED, with_unlike(SPLIT, 'cc', 'tcc')):
            for what in WHATS:
                for claim in (('x', source_names(book)[0]), ('y', source_names(book)[1]), ('q', source_names(book)[0])):
                    self.check(book, what, claim)
        self.assert_same([number_paper(EMPTY, 'base'), number_paper(book=EMPTY, what='base', file=1, source=2)], [((), (), ())] * 2)
        self.assert_same(number_paper(ALONE, 'base'), ((), (('x', 'cc'),), ()))

    def test_papers_of_any_books(self):
        several = {}
        for seed in range(90):
            book = random_book(seed, parties=5, builds=16, files=4)
            for source in source_names(book):
                for file in ('f0', 'f1', 'g'):
                    for what in WHATS:
                        number = self.check(book, what, (file, source))
                        several[(what, number)] = True
        self.assertGreater(len(several), 15)

    def test_weights_of_sixty_figures(self):
        for seed in range(25):
            book = random_book(seed, files=3)
            for name, weight in book[1]:
                book = with_weight(book, name, weight * 10 ** 59 + weight)
            for what in WHATS:
                self.check(book, what, ('f0', source_names(book)[0]))

    def test_errors(self):
        for call, thing in ((number_paper, ()), (lets_number, (PAPER,))):
            for what in NO_WHATS:
                self.assert_not_usable('what', call, ALONE, what, *thing)
                self.assert_not_usable('what', call, ALONE, what, *thing, file=None, source='dd')
            for what in ('wrong', 'right'):
                self.assert_not_usable('file', call, ALONE, what, *thing)
                for odd in NO_NAMES + (Book(),):
                    self.assert_not_usable('file', call, ALONE, what, *thing, file=odd, source=odd)
                    self.assert_not_usable('file', call, EMPTY, what, *thing, file=odd, source='cc')
                for odd in NO_NAMES + (Book(), 'dd', 'x', 'ann'):
                    self.assert_not_usable('source', call, ALONE, what, *thing, file='x', source=odd)
                self.assert_not_usable('source', call, ALONE, what, *thing, file='x')
        # What is handed in is looked at last.
        self.assert_not_usable('what', lets_number, ALONE, 'number', None)
        self.assert_not_usable('file', lets_number, ALONE, 'wrong', None)
        self.assert_paper('shape', -1, lets_number, ALONE, 'base', None, file=None, source=None)


class NumberCheckerTest(BookCase):

    def assert_wrong(self, word, told_at, book, thing, what='wrong', file='x', source='cc'):
        """The checker raises InvalidPaper with these fields."""
        self.assert_paper(word, told_at, lets_number, book, what, thing, file=file, source=source)

    def test_accepted(self):
        self.assert_same(lets_number(BOOK, 'wrong', DOUBLE, file='x', source='cc'), 2)
        self.assert_same(lets_number(book=SPLIT, what='base', thing=SPLIT_PAPER, file=None, source=None), 1)
        self.assert_same(lets_number(SPLIT, 'wrong', (('ann',), (('t', 'tcc'), ('y', 'cc'), ('z', 'cc')), SHOWN), file='x', source='cc'), 1)
        # Steps to a clash are as good, and a table may have more than what the others show.
        self.assert_same(lets_number(SPLIT, 'wrong', (('ann',), (('t', 'tcc'), ('y', 'cc'), ('z', 'cc')), (CLASH, SPLIT_PAPER[2][1])),
                                     file='x', source='cc'), 1)
        self.assert_same(lets_number(ALONE, 'wrong', (('ann',), (('q', 'tcc'),), SHOWN), file='x', source='cc'), 1)
        self.assert_same(lets_number(BOOK, 'right', ((), (('t', 'tcc'), ('x', 'cc'), ('y', 'cc')), ()), file='x', source='cc'), 0)

    def test_right(self):
        book = with_unlike(BOOK, 'cc', 'tcc')
        steps = (('vouched', 0), ('supposed', 0), ('unlike', 0, 1))
        more = (('vouched', 2), ('built', 3, 0, ()), ('built', 4, 1, ()), ('supposed', 0), ('unlike', 2, 3))
        tree = (steps, (('ann', (more, (('bob', ()), ('cy', ())))),))
        paper = (('ann', 'cy'), (('t', 'tcc'), ('x', 'tcc')), tree)
        self.assert_same(lets_number(book, 'right', paper, file='x', source='tcc'), 2)
        self.assert_wrong('table', ('supposed', 0), book, (('ann', 'cy'), (('t', 'tcc'),), tree), 'right', source='tcc')
        self.assert_wrong('target', (), book, (paper[0], paper[1], (steps[:1], (('ann', ()),))), 'right', source='tcc')
        # Handed in for another claim, or another question.
        self.assert_wrong('table', ('supposed', 0), book, paper, 'right', file='q', source='tcc')
        self.assert_wrong('claim', -1, book, paper, 'wrong', source='tcc')
        self.assert_wrong('steps', (), book, paper, 'wrong')
        self.assert_wrong('steps', (), book, paper, 'base')

    def test_shapes(self):
        for thing in ODD:
            self.assert_wrong('shape', -1, BOOK, thing)
        self.assert_wrong('shape', -1, BOOK, DOUBLE + ((),))
        self.assert_wrong('shape', -1, BOOK, list(DOUBLE))

    def test_bad(self):
        for bad in NO_NAMES + (Book(), 'ann', ('dan',), ('bob', 'ann'), ('ann', 'ann'), ['ann'], (None,), ('ann', 'dan'), (('ann',),)):
            if bad != ():
                self.assert_wrong('bad', -1, BOOK, (bad, (), ()))
                self.assert_wrong('bad', -1, BOOK, (bad, None, None))

    def test_table(self):
        for table in ODD:
            if table != ():
                self.assert_wrong('table', ('shape', -1), BOOK, (('ann', 'bob'), table, TREE))
        self.assert_wrong('table', ('vouched', 2), BOOK, (('ann',), (), TREE))
        self.assert_wrong('table', ('built', 3), BOOK, (('ann',), (('t', 'tcc'),), TREE))
        self.assert_wrong('table', ('order', 1), BOOK, (('ann', 'bob'), (('y', 'cc'), ('q', 'cc')), TREE))
        self.assert_wrong('table', ('fact', 0), BOOK, (('ann', 'bob'), (('y', 'dd'),), None))
        self.assert_wrong('table', ('moved', (0, 2, 1)), BOOK, (ALL, (('q', 'tcc'), ('y', 'cc'), ('y', 'tcc')), TREE))
        self.assert_wrong('table', ('parted', (1, 4)), SPLIT, ((), (('t', 'tcc'), ('x', 'cc'), ('y', 'cc'), ('z', 'cc')), ()), 'base')

    def test_claim(self):
        self.assert_wrong('claim', -1, BOOK, ((), (('t', 'tcc'), ('x', 'cc'), ('y', 'cc')), ()))
        self.assert_wrong('claim', -1, ALONE, (('ann',), (('x', 'cc'),), None))
        # For the other two it does not matter.
        self.assert_same(lets_number(ALONE, 'base', ((), (('x', 'cc'),), ()), file='x', source='cc'), 0)
        self.assert_same(lets_number(ALONE, 'right', ((), (('x', 'cc'),), ()), file='x', source='cc'), 0)

    def test_heavy(self):
        self.assert_wrong('heavy', ('ann',), BOOK, (('ann', 'bob'), (), SHOWN))
        self.assert_wrong('heavy', ('ann', 'bob'), BOOK, (('ann', 'bob'), (), (BY_ANN, (('ann', (BY_BOTH, (('bob', SHOWN), ('cy', ())))),))))
        self.assert_wrong('heavy', ('ann', 'cy'), BOOK, (('ann', 'bob'), (), (BY_ANN, (('ann', (BY_BOTH, (('bob', ()), ('cy', None)))),))))
        self.assert_wrong('heavy', (), ALONE, ((), (('x', 'cc'),), SHOWN), 'base')
        for node in NO_NAMES + (Book(), (BY_ANN,), (*SHOWN, ()), list(SHOWN), Knowledge(BOOK)):
            if not (type(node) is tuple and len(node) == 2):
                self.assert_wrong('heavy', (), BOOK, (('ann', 'bob'), (), node))
        for node in NO_NAMES + (Book(), SHOWN, [], Knowledge(BOOK)):
            if node != ():
                self.assert_wrong('heavy', ('ann',), ALONE, (('ann',), (), (BY_ANN, (('ann', node),))))

    def test_steps(self):
        for steps in ODD + (BY_ANN[0], list(BY_ANN), (('vouched', 9),), (('vouched', 1),), (('supposed', 0),), BY_ANN + (('moved', 1, 1, 1),)):
            self.assert_wrong('steps', (), BOOK, (('ann', 'bob'), (), (steps, (('ann', ()),))))
            self.assert_wrong('steps', ('ann',), BOOK, (('ann', 'bob'), (), (BY_ANN, (('ann', (steps, ())),))))

    def test_target(self):
        told = BY_BOTH[:2]
        self.assert_wrong('target', (), BOOK, (('ann', 'bob'), (), (told, (('bob', ()), ('cy', ())))))
        self.assert_wrong('target', ('ann',), BOOK, (('ann', 'bob'), (), (BY_ANN, (('ann', (told, None)),))))
        # The claim is no target of the base, nor of the right number.
        self.assert_wrong('target', (), SPLIT, (('cy',), (('t', 'tcc'), ('x', 'cc')), SHOWN), 'base')
        self.assert_wrong('target', (), SPLIT, (('cy',), (('t', 'tcc'), ('x', 'cc')), SHOWN), 'right')

    def test_used(self):
        self.assert_wrong('used', ('ann',), BOOK, (('ann', 'bob'), (), (BY_ANN, (('ann', (BY_ANN, (('ann', ()),))),))))
        self.assert_wrong('used', ('ann',), BOOK, (('ann', 'bob'), (), (BY_ANN, (('ann', (BY_ANN, None)),))))

    def test_branches(self):
        for branches in NO_NAMES + (Book(), [('ann', ())], (('ann',),), (('ann', (), ()),), (('bob', ()),), (('ann', ()), ('bob', ())),
                                    (('ann', ()), ('ann', ())), (['ann', ()],), (('ann', ()), None), ((True, ()),), ((None, ()),)):
            self.assert_wrong('branches', (), BOOK, (('ann', 'bob'), (), (BY_ANN, branches)))
        for branches in ((('cy', ()), ('bob', ())), (('bob', ()),), (('cy', ()),), (('ann', ()), ('bob', ()), ('cy', ()))):
            self.assert_wrong('branches', ('ann',), BOOK, (('ann', 'bob'), (), (BY_ANN, (('ann', (BY_BOTH, branches)),))))

    def test_the_first_one_is_told(self):
        # All that is below a branch comes before the next branch, and a node before what is below it.
        tree = (BY_BOTH, (('bob', (BY_ANN, (('ann', 1),))), ('cy', None)))
        self.assert_wrong('heavy', ('bob', 'ann'), BOOK, (('ann', 'bob'), (), tree))
        tree = (BY_BOTH, (('bob', (BY_ANN, (('ann', ()),))), ('cy', None)))
        self.assert_wrong('heavy', ('cy',), BOOK, (('ann', 'bob'), (), tree))
        tree = (BY_BOTH[1:], (('bob', None), ('cy', None)))
        self.assert_wrong('steps', (), BOOK, (('ann', 'bob'), (), tree))
        tree = (BY_BOTH, (('bob', None),))
        self.assert_wrong('branches', (), BOOK, (('ann', 'bob'), (), tree))
        # Steps to another fact, then steps to the claim, both by a party of the path.
        book = BOOK[:3] + (BOOK[3] + (('ann', None, 'tcc', (), 'q'),),)
        self.assert_wrong('target', ('ann',), book, (('ann', 'bob'), (), (BY_ANN, (('ann', ((('vouched', 5),), None)),))))
        mine = (('vouched', 0), ('built', 1, 0, ()))
        self.assert_wrong('used', ('ann',), book, (('ann', 'bob'), (), (BY_ANN, (('ann', (mine, None)),))))
        # All that is wrong with the bad set and the table comes before the tree, and the shape before both.
        self.assert_wrong('shape', -1, BOOK, (('dan',), None))
        self.assert_wrong('bad', -1, BOOK, (('dan',), None, None))
        self.assert_wrong('table', ('shape', -1), BOOK, (('ann', 'bob'), None, None))
        self.assert_wrong('claim', -1, BOOK, (('ann', 'bob'), (('x', 'cc'), ('y', 'cc')), None))

    def test_other_claims_and_questions(self):
        self.assert_wrong('target', (), BOOK, DOUBLE, file='y')
        self.assert_wrong('target', (), BOOK, DOUBLE, source='tcc')
        self.assert_wrong('target', (), BOOK, DOUBLE, what='base')
        self.assert_wrong('table', ('supposed', 0), BOOK, DOUBLE, what='right')
        self.assert_wrong('steps', ('ann',), (SOURCES, PARTIES, (), BOOK[3][:2] + MORE[1:]), DOUBLE)

    def test_changed_papers(self):
        words = {}
        for seed in range(150):
            dice = random.Random(seed)
            book = random_book(seed, sources=3, parties=4, builds=14, files=3)
            names = party_names(book) + source_names(book) + ('f0', 'f1', 'f2', 'g', 'vouched', 'built', 'moved', 'supposed')
            claims = [(file, source) for file in ('f0', 'f1') for source in source_names(book)]
            for what in WHATS:
                claim = dice.choice(claims)
                paper = number_paper(book, what, file=claim[0], source=claim[1])
                nodes = tree_nodes(paper[2])
                for _ in range(40):
                    told = mutated(dice, paper, names)
                    if dice.random() < 0.2:
                        told = paper[:2] + (with_node(paper[2], dice.choice(nodes)[0], dice.choice(nodes)[1]),)
                    told = mutated(dice, told, names) if dice.random() < 0.3 else told
                    other = claim if dice.random() < 0.8 else dice.choice(claims)
                    question = what if dice.random() < 0.9 else dice.choice(WHATS)
                    found = told_of(book, question, other, told)
                    self.assert_same(found, plain_number(book, question, other, told))
                    if type(found) is int:
                        self.assert_same(found, number_of(book, question, other))
                    words[type(found) is int or found[0]] = True
        self.assertEqual(words.keys(), {
            'shape', 'bad', 'table', 'claim', 'heavy', 'steps', 'target', 'used', 'branches', True})

    def test_all_small_papers(self):
        # Whoever made them: all that is accepted tells the number.
        for book, claim in ((ALONE, ('x', 'cc')), (BOOK, ('x', 'cc')), (BOOK, ('y', 'cc')), (SPLIT, ('y', 'cc'))):
            for what in WHATS:
                accepted = 0
                for bad in subsets(ALL):
                    others = tuple(name for name in ALL if name not in bad)
                    supposed = terms(what, claim)[0]
                    table = tuple(sorted(plain_facts(book, others, supposed)))
                    for tree in ((), SHOWN, TREE, SPLIT_PAPER[2], (BY_BOTH, (('bob', ()), ('cy', ()))), (BY_BOTH, (('bob', SHOWN), ('cy', SHOWN)))):
                        found = told_of(book, what, claim, (bad, table, tree))
                        self.assert_same(found, plain_number(book, what, claim, (bad, table, tree)))
                        if type(found) is int:
                            self.assert_same(found, number_of(book, what, claim))
                            accepted += 1
                self.assertTrue(accepted or (what, claim[0]) != ('wrong', 'x'))
