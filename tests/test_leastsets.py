"""Promises [36] to [38], with [34] and what [6] and (G2) of [8] say of these sets."""

import random

from rebuiltby.bookchanges import renamed, with_weight
from rebuiltby.bookclasses import Book
from rebuiltby.bookparts import files_of
from rebuiltby.claimnumbers import base_of, right_of, wrong_of
from rebuiltby.leastsets import bad_sets, clash_sets, right_sets, supports, wrong_sets
from tests.books import ALL, BOOK, EMPTY, LINKED, NO_NAMES, PARTIES, SOURCES, SPLIT, BookCase
from tests.books import party_names, plain_clashes, plain_facts, random_book, source_names, subsets

FILES = ('f0', 'f1', 'f2', 'g')


def least(sets):
    """Those of the sets that include no other one, ascending."""
    return tuple(sorted(one for one in sets if not any(set(other) < set(one) for other in sets)))


def without(book, bad):
    """The parties that are not in bad."""
    return tuple(name for name in party_names(book) if name not in bad)


def plain_sets(book, file, source):
    """What the five functions return, in the order of the document, with all sets of parties looked at."""
    sets = subsets(party_names(book))
    facts = {names: plain_facts(book, names) for names in sets}
    clashing = {names: bool(plain_clashes(book, names)) for names in sets}
    shown = {names: (file, source) in facts[names] for names in sets}
    bad = [names for names in sets if not clashing[without(book, names)]]
    wrong = [names for names in bad if not shown[without(book, names)]]
    right = [names for names in sets if not plain_clashes(book, without(book, names), ((file, source),))]
    support = [names for names in sets if shown[names] or clashing[names]]
    return least(bad), least(wrong), least(right), least(support), least([names for names in sets if clashing[names]])


def told_sets(book, file, source):
    """What the five functions return."""
    return (bad_sets(book), wrong_sets(book, file, source), right_sets(book, file, source), supports(book, file, source),
            clash_sets(book))


def hitting(book, sets):
    """The least sets of parties that share a party with each of the sets."""
    return least([names for names in subsets(party_names(book)) if all(set(names) & set(other) for other in sets)])


class LeastSetsTest(BookCase):

    def test_example(self):
        told = [wrong_sets(BOOK, 'x', 'cc'), supports(BOOK, 'x', 'cc'), bad_sets(BOOK), clash_sets(BOOK)]
        self.assert_same(told, [(('ann', 'bob'), ('ann', 'cy')), (('ann',), ('bob', 'cy')), ((),), ()])

    def test_sets(self):
        self.assert_same([bad_sets(book=SPLIT), clash_sets(book=SPLIT)], [(('ann',), ('bob',), ('cy',)), (ALL,)])
        self.assert_same(right_sets(book=SPLIT, file='y', source='cc'), (('ann',), ('cy',)))
        self.assert_same(wrong_sets(book=SPLIT, file='x', source='cc'), (('ann',),))
        self.assert_same(wrong_sets(SPLIT, 'y', 'cc'), (('bob',), ('cy',)))
        self.assert_same(supports(book=SPLIT, file='y', source='cc'), (('bob', 'cy'),))
        self.assert_same(right_sets(BOOK, 'x', 'cc'), ((),))

    def test_without_builds_or_parties(self):
        for book in (EMPTY, (SOURCES, (), (('cc', 'tcc'),), ()), (SOURCES, PARTIES, (), ())):
            self.assert_same([bad_sets(book), clash_sets(book)], [((),), ()])
            for source in source_names(book):
                told = [wrong_sets(book, 'x', source), right_sets(book, 'x', source), supports(book, 'x', source)]
                self.assert_same(told, [((),), ((),), ()])

    def test_claims_of_everybody_and_of_nobody(self):
        vouched = (SOURCES, PARTIES, (), tuple((name, None, 'cc', (), 'x') for name in ALL))
        self.assert_same([wrong_sets(vouched, 'x', 'cc'), supports(vouched, 'x', 'cc')], [(ALL,), (('ann',), ('bob',), ('cy',))])
        self.assert_same([wrong_sets(vouched, 'x', 'tcc'), supports(vouched, 'x', 'tcc')], [((),), ()])
        told = vouched[:2] + ((('cc', 'tcc'),),) + vouched[3:]
        self.assert_same([right_sets(told, 'x', 'tcc'), bad_sets(told)], [(ALL,), ((),)])
        # A party that clashes alone is in each bad set, whatever is claimed.
        clash = (SOURCES, PARTIES, (('cc', 'tcc'),), (('bob', None, 'cc', (), 'x'), ('bob', None, 'tcc', (), 'x')))
        for file, source in (('x', 'cc'), ('q', 'tcc')):
            self.assert_same(told_sets(clash, file, source), ((('bob',),),) * 5)

    def test_against_all_sets(self):
        several = {}
        for seed in range(110):
            book = random_book(seed, parties=5, builds=16)
            for file in FILES:
                for source in source_names(book):
                    told = told_sets(book, file, source)
                    self.assert_same(told, plain_sets(book, file, source))
                    several[told] = True
        self.assertGreater(len(several), 60)

    def test_linked(self):
        for file in files_of(LINKED) + ('q',):
            for source in source_names(LINKED):
                self.assert_same(told_sets(LINKED, file, source), plain_sets(LINKED, file, source))

    def test_weights_do_not_matter(self):
        for seed in range(20):
            book = random_book(seed)
            heavy = book
            for n, name in enumerate(party_names(book)):
                heavy = with_weight(heavy, name, 10 ** 59 + n)
            for source in source_names(book):
                self.assert_same(told_sets(heavy, 'f0', source), told_sets(book, 'f0', source))

    def test_errors(self):
        for call in (wrong_sets, right_sets, supports):
            for thing in NO_NAMES + (Book(),):
                self.assert_not_usable('file', call, BOOK, thing, thing)
                self.assert_not_usable('file', call, EMPTY, thing, 'cc')
                self.assert_not_usable('file', call, BOOK, source='cc', file=thing)
            for thing in NO_NAMES + (Book(), 'dd', 'x', 'ann', 'c'):
                self.assert_not_usable('source', call, BOOK, 'x', thing)
                self.assert_not_usable('source', call, EMPTY, 'x', thing)


class ConsequencesTest(BookCase):

    def weight(self, book, names):
        """The weight of a set of parties."""
        return sum(weight for name, weight in book[1] if name in names)

    def claims(self, book):
        """Some claims of the book."""
        return [(file, source) for file in ('f0', 'f1', 'g') for source in source_names(book)]

    def lightest(self, book, sets):
        """The least weight of the sets."""
        return min(self.weight(book, names) for names in sets)

    def test_numbers(self):
        for seed in range(60):
            for book in (random_book(seed), self.heavy(random_book(seed, parties=5))):
                self.assertEqual(self.lightest(book, bad_sets(book)), base_of(book))
                for claim in self.claims(book):
                    wrong, right = wrong_of(book, *claim), right_of(book, *claim)
                    self.assertEqual(self.lightest(book, wrong_sets(book, *claim)), wrong)
                    self.assertEqual(self.lightest(book, right_sets(book, *claim)), right)
                    self.assertLessEqual(max(wrong, right), self.weight(book, party_names(book)))
                    self.assertEqual(min(wrong, right), base_of(book))

    def heavy(self, book):
        """The book with weights of up to sixty figures."""
        for name, weight in book[1]:
            book = with_weight(book, name, weight * 10 ** 59 + 7 - weight)
        return book

    def test_sets_that_include_one(self):
        for seed in range(40):
            book = random_book(seed)
            for file, source in self.claims(book):
                for names in subsets(party_names(book)):
                    others = without(book, names)
                    calm = not plain_clashes(book, others)
                    hidden = (file, source) not in plain_facts(book, others)
                    right = not plain_clashes(book, others, ((file, source),))
                    for sets, holds in ((bad_sets(book), calm), (wrong_sets(book, file, source), calm and hidden),
                                        (right_sets(book, file, source), right)):
                        self.assertEqual(any(set(one) <= set(names) for one in sets), holds)

    def test_sets_that_share_a_party(self):
        for seed in range(80):
            book = random_book(seed, parties=5)
            self.assertEqual(bad_sets(book), hitting(book, clash_sets(book)))
            self.assertEqual(clash_sets(book), hitting(book, bad_sets(book)))
            for claim in self.claims(book):
                self.assertEqual(wrong_sets(book, *claim), hitting(book, supports(book, *claim)))
                self.assertEqual(supports(book, *claim), hitting(book, wrong_sets(book, *claim)))

    def test_names_do_not_matter(self):
        for seed in range(40):
            book = random_book(seed)
            dice = random.Random(seed)
            tables = []
            for names in (party_names(book), source_names(book), files_of(book) + ('g',)):
                fresh = [f'z{k}' for k in range(len(names))]
                dice.shuffle(fresh)
                tables.append(tuple(zip(names, fresh)))
            changed = renamed(book, parties=tables[0], sources=tables[1], files=tables[2])
            parties, sources, files = [dict(table) for table in tables]
            for file, source in self.claims(book):
                told = told_sets(changed, files.get(file, file), sources[source])
                for one, other in zip(told, told_sets(book, file, source)):
                    named = [tuple(sorted(parties[name] for name in names)) for names in other]
                    self.assert_same(one, tuple(sorted(named)))
