"""Promises [41] to [43], with [6], [38] and what [43] says of greater budgets."""

from rebuiltby.bookclasses import Book
from rebuiltby.bookparts import files_of
from rebuiltby.claimnumbers import base_of
from rebuiltby.judging import cleared, sure_facts, suspects, verdict
from rebuiltby.standings import Standing, standing_of
from tests.books import ALL, ALONE, BOOK, EMPTY, NO_NAMES, NO_NUMBERS, SOURCES, SPLIT, BookCase
from tests.books import party_names, plain_clashes, plain_facts, random_book, source_names, subsets

HEAVY = (SOURCES, (('ann', 1), ('bob', 2), ('cy', 2)), (), SPLIT[3])
FACTS = (('t', 'tcc'), ('x', 'cc'), ('y', 'cc'))


def plain_bad_sets(book, budget):
    """All bad sets of at most this weight."""
    sets = []
    for bad in subsets(party_names(book)):
        others = [name for name in party_names(book) if name not in bad]
        if sum(weight for name, weight in book[1] if name in bad) <= budget and not plain_clashes(book, others):
            sets.append(bad)
    return sets


def plain_sure(book, budget):
    """The facts that are shown without each of these bad sets."""
    sets = plain_bad_sets(book, budget)
    shown = [plain_facts(book, [name for name in party_names(book) if name not in bad]) for bad in sets]
    return tuple(sorted(set.intersection(*shown))) if shown else ()


def budgets_of(book):
    """Budgets around all weights of the book."""
    return range(sum(weight for _, weight in book[1]) + 2)


class VerdictTest(BookCase):

    def test_example(self):
        found = [verdict(BOOK, 'x', 'cc', 1), verdict(SPLIT, 'x', 'cc', 0), verdict(SPLIT, 'x', 'cc', 1)]
        self.assert_same([*found, verdict(HEAVY, 'x', 'cc', 1)], ['right', 'none', 'open', 'wrong'])

    def test_around_the_two_numbers(self):
        words = [verdict(BOOK, 'x', 'cc', k) for k in (0, 1, 2, 3, 10 ** 60)]
        self.assert_same(words, ['right', 'right', 'open', 'open', 'open'])
        heavy = standing_of(HEAVY, 'x', 'cc')
        self.assertEqual(heavy, Standing(2, 1))
        words = [verdict(HEAVY, 'x', 'cc', k) for k in (0, 1, 2, 3)]
        self.assert_same(words, ['none', 'wrong', 'open', 'open'])
        words = [verdict(book=HEAVY, file='y', source='cc', budget=k) for k in (0, 1, 2, 3, 4)]
        self.assert_same(words, ['none', 'right', 'open', 'open', 'open'])

    def test_other_files(self):
        self.assert_same([verdict(BOOK, 'other', 'cc', 0), verdict(SPLIT, 'other', 'cc', 0)], ['open', 'none'])

    def test_all_claims_of_books(self):
        for seed in range(50):
            book = random_book(seed)
            for file in ('f0', 'f1', 'f2', 'g'):
                for source in source_names(book):
                    standing = standing_of(book, file, source)
                    for budget in budgets_of(book):
                        self.assert_same(verdict(book, file, source, budget), standing(budget))

    def test_errors(self):
        for thing in NO_NAMES + (Book(),):
            self.assert_not_usable('file', verdict, BOOK, thing, thing, thing)
            self.assert_not_usable('source', verdict, BOOK, 'x', thing, thing)
        self.assert_not_usable('source', verdict, BOOK, 'x', 'dd', -1)
        for thing in NO_NUMBERS + (Standing(1, 2), Book()):
            self.assert_not_usable('budget', verdict, BOOK, 'x', 'cc', thing)
            self.assert_not_usable('budget', verdict, SPLIT, 'q', 'tcc', thing)


class SureTest(BookCase):

    def test_example(self):
        self.assert_same([suspects(HEAVY, 1), cleared(HEAVY, 1)], [('ann',), ('bob', 'cy')])
        self.assert_same(sure_facts(HEAVY, 1), (('t', 'tcc'), ('y', 'cc'), ('z', 'cc')))
        self.assert_same(cleared(BOOK, 1), ())

    def test_sure_facts(self):
        self.assert_same([sure_facts(BOOK, k) for k in (0, 1, 2)], [FACTS, (('x', 'cc'),), ()])
        self.assert_same([sure_facts(ALONE, 0), sure_facts(ALONE, 1)], [(('x', 'cc'),), ()])
        self.assert_same([sure_facts(SPLIT, 0), sure_facts(SPLIT, 1), sure_facts(SPLIT, 10 ** 60)], [(), (), ()])
        self.assert_same([sure_facts(EMPTY, 0), sure_facts(book=HEAVY, budget=0)], [(), ()])

    def test_suspects_and_cleared(self):
        self.assert_same([suspects(BOOK, 0), cleared(BOOK, 0)], [(), ALL])
        self.assert_same([suspects(SPLIT, 0), cleared(SPLIT, 0)], [(), ()])
        self.assert_same([suspects(SPLIT, 1), cleared(SPLIT, 1)], [(), ()])
        self.assert_same([suspects(book=HEAVY, budget=2), cleared(book=HEAVY, budget=2)], [(), ()])
        self.assert_same([suspects(EMPTY, 3), cleared(EMPTY, 3)], [(), ()])
        unsure = (SOURCES, (('ann', 5), ('bob', 3), ('cy', 3)), (), SPLIT[3])
        self.assert_same([cleared(unsure, 3), suspects(unsure, 3), cleared(unsure, 2)], [('ann',), (), ()])

    def test_all_budgets_of_books(self):
        suspected = set()
        for seed in range(150):
            book = random_book(seed, parties=5, builds=16, files=4)
            for budget in budgets_of(book):
                sets = plain_bad_sets(book, budget)
                names = party_names(book) if sets else ()
                each = tuple(name for name in names if all(name in bad for bad in sets))
                none = tuple(name for name in names if not any(name in bad for bad in sets))
                self.assert_same(suspects(book, budget), each)
                self.assert_same(cleared(book, budget), none)
                self.assert_same(sure_facts(book, budget), plain_sure(book, budget))
                self.assertEqual(not sets, base_of(book) > budget)
                suspected.add((len(each), len(none)))
        self.assertGreater(len(suspected), 12)

    def test_sure_facts_are_the_claims_with_the_verdict_right(self):
        for seed in range(40):
            book = random_book(seed)
            for budget in budgets_of(book):
                told = tuple((file, source) for file in files_of(book) for source in source_names(book)
                             if verdict(book, file, source, budget) == 'right')
                self.assert_same(sure_facts(book, budget), told)

    def test_greater_budgets_add_nothing(self):
        for seed in range(80):
            book = random_book(seed, parties=5, builds=16, files=4)
            for ask in (sure_facts, suspects, cleared):
                for budget in budgets_of(book):
                    if budget >= base_of(book):
                        self.assertLessEqual(set(ask(book, budget + 1)), set(ask(book, budget)))

    def test_errors(self):
        for ask in (sure_facts, suspects, cleared):
            for thing in NO_NUMBERS + (Standing(1, 2), Book()):
                self.assert_not_usable('budget', ask, BOOK, thing)
                self.assert_not_usable('budget', ask, SPLIT, thing)
                self.assert_not_usable('budget', ask, EMPTY, budget=thing)
