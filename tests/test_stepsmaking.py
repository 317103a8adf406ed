"""Promises [25] and [26]: steps to facts and to clashes, followed here by the words of [25]."""

import unittest

from rebuiltby.bookchanges import with_build, with_unlike
from rebuiltby.closing import clashes_of, facts_of
from rebuiltby.stepsmaking import steps_to, steps_to_clash
from tests.books import ALL, BOOK, EMPTY, LINKED, NO_NAMES, PARTIES, SOURCES, SPLIT, BookCase
from tests.books import party_names, random_book, random_facts, source_names, subsets
from tests.test_closing import NO_FACT_SETS, NO_PARTY_SETS


class Follower:
    """Follows steps by the words of [25]."""

    def __init__(self, case, book, supposed):
        self.case = case
        self.rows = {source[0]: source for source in book[0]}
        self.book = book
        self.supposed = supposed
        self.facts = []
        self.parties = set()

    def follow(self, steps):
        """What the steps show, () for a clash, and the set of their parties."""
        case = self.case
        case.assertIs(type(steps), tuple)
        case.assertTrue(steps)
        shown = None
        for n, step in enumerate(steps):
            case.assertIs(type(step), tuple)
            case.assertNotEqual(shown, (), 'only the last step may be a clash')
            shown = getattr(self, step[0])(*step[1:])
            self.facts.append(shown)
        return shown, tuple(sorted(self.parties))

    def earlier(self, *indexes):
        """The facts of these steps, all of them earlier ones."""
        for at in indexes:
            self.case.assertIs(type(at), int)
            self.case.assertTrue(0 <= at < len(self.facts))
        return [self.facts[at] for at in indexes]

    def build(self, k):
        """Build k; its party is one of the steps' parties."""
        self.case.assertIs(type(k), int)
        self.case.assertTrue(0 <= k < len(self.book[3]))
        self.parties.add(self.book[3][k][0])
        return self.book[3][k]

    def vouched(self, k):
        _, compiler, source, _, file = self.build(k)
        self.case.assertIsNone(compiler)
        return file, source

    def built(self, k, i, js):
        _, compiler, source, parts, file = self.build(k)
        [fact] = self.earlier(i)
        self.case.assertIsNotNone(compiler)
        self.case.assertEqual(fact[0], compiler)
        self.case.assertIn(self.rows[source][1], self.rows[fact[1]][2])
        self.case.assertIs(type(js), tuple)
        self.case.assertEqual(self.earlier(*js), list(zip(parts, self.rows[source][4])))
        return file, source

    def moved(self, i, j, l):
        (f, s), (g, s_again), (g_again, t) = self.earlier(i, j, l)
        self.case.assertEqual((s, g), (s_again, g_again))
        return f, t

    def supposed(self, n):
        raise NotImplementedError

    def parted(self, k, m, i, j):
        one, other = self.build(k), self.build(m)
        (f, s), (g, t) = self.earlier(i, j)
        self.case.assertEqual((f, g, s, one[2:4]), (one[1], other[1], t, other[2:4]))
        self.case.assertIs(self.rows[s][3], True)
        self.case.assertNotEqual(one[4], other[4])
        return ()

    def unlike(self, i, j):
        (f, s), (f_again, t) = self.earlier(i, j)
        self.case.assertEqual(f, f_again)
        self.case.assertIn(tuple(sorted((s, t))), self.book[2])
        return ()


def follow(case, book, steps, supposed=()):
    """What the steps show, and their parties."""
    follower = Follower(case, book, supposed)
    follower.supposed = lambda n: supposed[n] if type(n) is int and 0 <= n < len(supposed) else case.fail(n)
    return follower.follow(steps)


class StepsTest(BookCase):

    def test_example(self):
        steps = steps_to(BOOK, ('bob', 'cy'), 'x', 'cc')
        self.assertEqual(follow(self, BOOK, steps), (('x', 'cc'), ('bob', 'cy')))
        self.assert_same([steps_to(BOOK, ('cy',), 'x', 'cc'), steps_to_clash(BOOK, ALL)], [None, None])
        self.assertEqual(follow(self, SPLIT, steps_to_clash(SPLIT, ALL)), ((), ALL))

    def test_each_form(self):
        self.assert_same(steps_to(BOOK, ('ann',), 'x', 'cc'), (('vouched', 0),))
        self.assert_same(steps_to(book=BOOK, trusted=(), file='q', source='tcc', supposed=(('q', 'tcc'),)), (('supposed', 0),))
        built = steps_to(LINKED, ('ann', 'bob'), 'a', 'app')
        self.assertEqual(follow(self, LINKED, built), (('a', 'app'), ('ann', 'bob')))
        self.assertEqual(built[-1][:2], ('built', 3))
        supposed = (('q', 'cc'), ('q', 'tcc'), ('x', 'tcc'))
        moved = steps_to(BOOK, (), 'x', 'cc', supposed=supposed)
        self.assert_same(follow(self, BOOK, moved, supposed), (('x', 'cc'), ()))
        self.assertEqual(moved[-1][0], 'moved')

    def test_clashes(self):
        told = with_unlike(BOOK, 'cc', 'tcc')
        supposed = (('q', 'cc'), ('x', 'tcc'))
        steps = steps_to_clash(told, ('ann',), supposed=supposed)
        self.assertEqual(follow(self, told, steps, supposed), ((), ('ann',)))
        self.assertEqual(steps[-1][0], 'unlike')
        one = with_build(BOOK, ('ann', 'x', 'cc', (), 'q'))
        steps = steps_to_clash(book=one, trusted=('ann', 'cy'), supposed=())
        self.assertEqual(follow(self, one, steps), ((), ('ann', 'cy')))
        self.assertEqual(steps[-1][0], 'parted')

    def test_parted_by_a_steady_source(self):
        # The compilers are right for a loose source as well, and for that one first.
        loose = ((SOURCES[0][:3] + (False, ()), SOURCES[1]),) + SPLIT[1:]
        supposed = (('x', 'cc'), ('x', 'tcc'), ('y', 'cc'))
        self.assertEqual(follow(self, loose, steps_to_clash(loose, ('cy',), supposed=supposed), supposed), ((), ('cy',)))

    def test_none(self):
        self.assertIsNone(steps_to(BOOK, ALL, 'q', 'cc'))
        self.assertIsNone(steps_to(BOOK, (), 'x', 'cc'))
        self.assertIsNone(steps_to(BOOK, ALL, 'x', 'tcc'))
        self.assertIsNone(steps_to_clash(EMPTY, ()))

    def test_long_chains(self):
        chain = tuple(('cy', f'f{k}', 'cc', (), f'f{k + 1}') for k in range(200))
        book = (SOURCES, PARTIES, (), chain[::-1])
        supposed = (('f0', 'cc'),)
        steps = steps_to(book, ('cy',), 'f200', 'cc', supposed=supposed)
        self.assertEqual(follow(self, book, steps, supposed), (('f200', 'cc'), ('cy',)))

    def test_steps_for_just_what_is_shown(self):
        facts = clashes = 0
        for seed in range(150):
            book = random_book(seed)
            supposed = random_facts(seed, book)
            for trusted in subsets(party_names(book)):
                shown = facts_of(book, trusted, supposed=supposed)
                for file in ('f0', 'f1', 'f2', 'f3', 'f4', 'f5', 'g'):
                    for source in source_names(book):
                        steps = steps_to(book, trusted, file, source, supposed=supposed)
                        self.assertEqual(steps is not None, (file, source) in shown)
                        if steps is not None:
                            fact, parties = follow(self, book, steps, supposed)
                            self.assertEqual(fact, (file, source))
                            self.assertLessEqual(set(parties), set(trusted))
                            facts += 1
                steps = steps_to_clash(book, trusted, supposed=supposed)
                self.assertEqual(steps is not None, clashes_of(book, trusted, supposed=supposed) != ())
                if steps is not None:
                    fact, parties = follow(self, book, steps, supposed)
                    self.assertEqual(fact, ())
                    self.assertLessEqual(set(parties), set(trusted))
                    clashes += 1
        self.assertGreater(facts, 2000)
        self.assertGreater(clashes, 100)


class ErrorsTest(BookCase):

    def test_trusted(self):
        for thing in NO_PARTY_SETS:
            self.assert_not_usable('trusted', steps_to, BOOK, thing, None, None, supposed=None)
            self.assert_not_usable('trusted', steps_to_clash, BOOK, thing, supposed=None)

    def test_file_and_source(self):
        for thing in NO_NAMES:
            self.assert_not_usable('file', steps_to, BOOK, ALL, thing, None, supposed=None)
        for thing in NO_NAMES + ('dd', 'x', 'ann', 'c'):
            self.assert_not_usable('source', steps_to, BOOK, ALL, 'x', thing, supposed=None)

    def test_supposed(self):
        for thing in NO_FACT_SETS:
            if thing != ():
                self.assert_not_usable('supposed', steps_to, BOOK, ALL, 'x', 'cc', supposed=thing)
                self.assert_not_usable('supposed', steps_to_clash, BOOK, ALL, supposed=thing)
        self.assertRaises(TypeError, steps_to, BOOK, ALL, 'x', 'cc', ())
        self.assertRaises(TypeError, steps_to_clash, BOOK, ALL, ())


if __name__ == '__main__':
    unittest.main()
