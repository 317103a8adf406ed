"""Promises [47], as far as it speaks of orders, and [48], with what [7] says of orders."""

import itertools

from rebuiltby.bookclasses import Book
from rebuiltby.bookparts import files_of
from rebuiltby.orderkinds import is_decided, orders
from tests.books import ALL, ALONE, BOOK, EARLY, EMPTY, LINKED, NO_NAMES, PARTIES, SOURCES, SPLIT, USED, BookCase
from tests.books import party_names, plain_facts, random_book, source_names


def plain_orders(book):
    """The orders of [7], with all tuples of parties, files, sources and parts looked at."""
    facts = plain_facts(book, party_names(book))
    rows = {source[0]: source for source in book[0]}
    found = []
    for party, compiler, source in itertools.product(party_names(book), files_of(book), rows):
        for parts in itertools.product(files_of(book), repeat=len(rows[source][4])):
            order = (party, compiler, source, parts)
            compiled = any(rows[source][1] in rows[name][2] and (compiler, name) in facts for name in rows)
            fits = all(pair in facts for pair in zip(parts, rows[source][4]))
            if compiled and fits and order not in [build[:4] for build in book[3]]:
                found.append(order)
    return tuple(sorted(found))


def plain_decisions(book, order):
    """The files of all builds that decide an order by [7]."""
    facts = plain_facts(book, party_names(book))
    return {
        build[4] for build in book[3] for name in source_names(book)
        if build[2:4] == order[2:] and (order[1], name) in facts and (build[1], name) in facts
    }


class OrdersTest(BookCase):

    def test_example(self):
        self.assert_same([len(orders(EARLY)), orders(EARLY)[0]], [11, ('ann', 't', 'cc', ())])
        self.assert_same(is_decided(EARLY, 'bob', 'x', 'cc', ()), True)

    def test_orders(self):
        self.assert_same(orders(ALONE), (
            ('ann', 'x', 'cc', ()), ('ann', 'x', 'tcc', ()), ('bob', 'x', 'cc', ()), ('bob', 'x', 'tcc', ()),
            ('cy', 'x', 'tcc', ())))
        self.assert_same([orders(EMPTY), orders(book=(SOURCES, PARTIES, (), ()))], [(), ()])
        self.assert_same(orders((SOURCES, (), (), ())), ())

    def test_parts(self):
        builds = LINKED[3] + (('ann', None, 'lib', (), 'm'),)
        book = (USED, LINKED[1], (), builds)
        told = [order for order in orders(book) if order[2] == 'net' and order[0] == 'bob']
        self.assert_same(told, [
            ('bob', 'k', 'net', ('m',)), ('bob', 'o', 'net', ('l',)), ('bob', 'o', 'net', ('m',))])
        told = [order for order in orders(book) if order[2] == 'app' and order[1] == 'k' and order[0] == 'bob']
        self.assert_same(told, [('bob', 'k', 'app', ('m', 'n'))])

    def test_a_file_for_two_sources_is_ordered_once(self):
        book = (SOURCES, PARTIES[:1], (), (('ann', None, 'cc', (), 'x'), ('ann', None, 'tcc', (), 'x')))
        self.assert_same(orders(book), (('ann', 'x', 'cc', ()), ('ann', 'x', 'tcc', ())))

    def test_a_vouching_is_no_order(self):
        for book in (ALONE, BOOK, EARLY, LINKED):
            self.assertTrue(all(isinstance(order[1], str) for order in orders(book)))

    def test_any_books(self):
        several = set()
        for seed in range(150):
            book = random_book(seed)
            told = orders(book)
            self.assert_same(told, plain_orders(book))
            several.add(len(told))
            for order in told:
                self.assert_same(is_decided(book, *order), bool(plain_decisions(book, order)))
        self.assertGreater(len(several), 15)

    def test_books_that_are_not_open_to_orders(self):
        self.assert_same([order for order in orders(SPLIT) if order[0] == 'cy' and order[2] == 'cc'], [
            ('cy', 'z', 'cc', ())])
        loose = ((('cc', 'c', ('c',), False, ()),), PARTIES[:1], (), (('ann', None, 'cc', (), 'x'),))
        self.assert_same(orders(loose), (('ann', 'x', 'cc', ()),))
        self.assert_same(is_decided(loose, 'ann', 'x', 'cc', ()), False)
        self.assert_same(is_decided(SPLIT, 'ann', 'z', 'cc', ()), True)


class DecidedTest(BookCase):

    def test_decided_and_not(self):
        self.assert_same(is_decided(book=EARLY, party='bob', compiler='t', source='cc', parts=()), False)
        self.assert_same(is_decided(BOOK, 'ann', 't', 'cc', ()), True)
        self.assert_same(is_decided(BOOK, 'bob', 'y', 'tcc', ()), False)
        self.assert_same([is_decided(ALONE, 'ann', 'x', 'cc', ()), is_decided(ALONE, 'ann', 'x', 'tcc', ())], [True, False])

    def test_a_vouching_decides_nothing(self):
        book = (SOURCES, PARTIES, (), (('ann', None, 'cc', (), 'x'),))
        self.assert_same(is_decided(book, 'ann', 'x', 'cc', ()), False)

    def test_other_parts_decide_nothing(self):
        book = LINKED[:2] + ((), LINKED[3] + (('ann', None, 'lib', (), 'm'),))
        self.assert_same(is_decided(book, 'bob', 'k', 'net', ('m',)), False)
        self.assert_same(is_decided(book, 'ann', 'k', 'net', ('l',)), True)
        # o is right for old only, with which nothing was built yet.
        self.assert_same(is_decided(book, 'bob', 'o', 'net', ('l',)), False)

    def test_no_orders(self):
        odd = NO_NAMES + (Book(), 'zed', 'x')
        for thing in odd:
            if thing != 'x':
                self.assert_not_usable('order', is_decided, EARLY, 'bob', thing, 'cc', ())
            self.assert_not_usable('order', is_decided, EARLY, thing, 'x', 'cc', ())
            self.assert_not_usable('order', is_decided, EARLY, 'bob', 'x', thing, ())
            self.assert_not_usable('order', is_decided, EARLY, thing, thing, thing, thing)
            if thing != ():
                self.assert_not_usable('order', is_decided, EARLY, 'bob', 'x', 'cc', thing)
        # No party's, told already, compiled by what is no compiler, with a part too many.
        self.assert_not_usable('order', is_decided, EARLY, 'dan', 'x', 'cc', ())
        self.assert_not_usable('order', is_decided, EARLY, 'cy', 'x', 'cc', ())
        self.assert_not_usable('order', is_decided, EARLY, 'ann', None, 'cc', ())
        self.assert_not_usable('order', is_decided, EARLY, 'bob', 'x', 'cc', ('x',))
        self.assert_not_usable('order', is_decided, EARLY, 'bob', 'x', 'cc', [])
        self.assert_not_usable('order', is_decided, LINKED, 'bob', 'k', 'net', ('k',))
        self.assert_not_usable('order', is_decided, LINKED, 'bob', 'l', 'net', ('l',))
        self.assert_not_usable('order', is_decided, EMPTY, 'bob', 'x', 'cc', ())
        self.assert_not_usable('order', is_decided, (SOURCES, PARTIES, (), ()), *(ALL[0], 'x', 'cc', ()))

    def test_an_odd_file_stands_for_nothing(self):
        # q is no file of the book.
        self.assert_not_usable('order', is_decided, BOOK, 'ann', 'q', 'cc', ())
