"""Promise [28], as far as it speaks of table_of, and what follows it there."""

import itertools
import random

from rebuiltby.bookclasses import Book
from rebuiltby.closing import clashes_of, facts_of
from rebuiltby.errors import InvalidPaper
from rebuiltby.tablechecker import lets_table
from rebuiltby.tablemaking import table_of
from tests.books import ALL, ALONE, BOOK, EMPTY, LINKED, SPLIT, BookCase
from tests.books import party_names, plain_clashes, plain_facts, random_book, random_facts, source_names, subsets
from tests.test_closing import NO_FACT_SETS, NO_PARTY_SETS

TABLE = (('t', 'tcc'), ('x', 'cc'), ('y', 'cc'))


class TableMakingTest(BookCase):

    def test_example(self):
        self.assert_same([lets_table(BOOK, ('bob', 'cy'), TABLE), lets_table(BOOK, ('cy',), ()), table_of(SPLIT, ALL)], [3, 0, None])

    def test_tables(self):
        self.assert_same([table_of(EMPTY, ()), table_of(ALONE, ()), table_of(book=ALONE, trusted=('cy',), supposed=())], [(), (), ()])
        table = table_of(BOOK, ('cy',), supposed=(('q', 'tcc'), ('t', 'tcc')))
        self.assertGreaterEqual(lets_table(BOOK, ('cy',), table, supposed=(('q', 'tcc'), ('t', 'tcc'))), 4)
        self.assert_same(table_of(SPLIT, (), supposed=(('x', 'cc'), ('x', 'tcc'))), (('x', 'cc'), ('x', 'tcc')))
        self.assert_same(table_of(LINKED, (), supposed=(('q', 'lib'), ('q', 'net'))), None)
        self.assert_same(table_of(SPLIT, ('cy',), supposed=(('x', 'cc'), ('y', 'cc'))), None)

    def test_each_set_of_trusted_parties(self):
        told = {True: 0, False: 0}
        for seed in range(120):
            book = random_book(seed)
            for supposed in ((), random_facts(seed, book), random_facts(seed + 1, book, most=5)):
                for trusted in subsets(party_names(book)):
                    table = table_of(book, trusted, supposed=supposed)
                    clash = bool(plain_clashes(book, trusted, supposed))
                    self.assertEqual(table is None, clash)
                    if not clash:
                        self.assert_same(lets_table(book, trusted, table, supposed=supposed), len(table))
                        self.assertLessEqual(plain_facts(book, trusted, supposed), set(table))
                    told[clash] += 1
        self.assertTrue(min(told.values()) > 300, told)

    def test_what_accepted_tables_have(self):
        # Every set of a few facts that is accepted has all facts of facts_of, and there is none if there is a clash.
        accepted, clashing = 0, 0
        for seed in range(60):
            book = random_book(seed, sources=3, parties=2, builds=8, files=2)
            facts = [(file, source) for file in ('f0', 'f1', 'g') for source in source_names(book)][:8]
            for trusted in subsets(party_names(book)):
                supposed = tuple(sorted(random.Random(seed).sample(facts, seed % 3)))
                found = []
                for many in range(len(facts) + 1):
                    for thing in itertools.combinations(facts, many):
                        try:
                            lets_table(book, trusted, tuple(sorted(thing)), supposed=supposed)
                            found.append(thing)
                        except InvalidPaper:
                            pass
                for thing in found:
                    self.assertLessEqual(set(facts_of(book, trusted, supposed=supposed)), set(thing))
                accepted += len(found)
                if clashes_of(book, trusted, supposed=supposed):
                    self.assertEqual(found, [])
                    clashing += 1
        self.assertTrue(accepted > 500 and clashing > 4, (accepted, clashing))

    def test_any_order_of_builds(self):
        for seed in range(40):
            book = random_book(seed)
            order = list(book[3])
            random.Random(seed).shuffle(order)
            trusted = party_names(book)
            table = table_of(book[:3] + (tuple(order),), trusted)
            if table is not None:
                self.assertEqual(lets_table(book, trusted, table), len(table))

    def test_errors(self):
        for thing in NO_PARTY_SETS:
            self.assert_not_usable('trusted', table_of, BOOK, thing)
            self.assert_not_usable('trusted', table_of, BOOK, thing, supposed=None)
        for thing in NO_FACT_SETS + (Book(),):
            self.assert_not_usable('supposed', table_of, BOOK, ALL, supposed=thing)
            self.assert_not_usable('supposed', table_of, SPLIT, trusted=ALL, supposed=thing)
