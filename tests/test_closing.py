"""Promises [22] to [24], with [5] and [7]: facts, clashes and classes."""

import unittest

from rebuiltby.bookchanges import with_build, with_unlike, without_build
from rebuiltby.bookclasses import Book
from rebuiltby.closing import classes_of, clashes_of, facts_of, is_calm
from tests.books import ALL, ALONE, BOOK, EMPTY, LINKED, NO_NAMES, PARTIES, SOURCES, SPLIT, BookCase
from tests.books import nested, party_names, plain_clashes, plain_facts, random_book, random_facts, source_names, subsets

CALLS = (facts_of, clashes_of, is_calm, classes_of)
NO_PARTY_SETS = (None, True, 1, 'ann', '', [], ['ann'], ('dan',), ('cc',), ('bob', 'ann'), ('ann', 'ann'), (1,), (True,),
                 (None,), (('ann',),), nested('ann', 30), ('ann', 'bob', 'dan'), Book())
NO_FACT_SETS = (None, True, 1, 'x', '', [], [('x', 'cc')], ('x', 'cc'), (('x',),), (('x', 'cc', 'cc'),), (('x', 'dd'),),
                (('cc', 'x'),), (('x', 'ann'),), (('X', 'cc'),), ((1, 'cc'),), (('x', True),), (['x', 'cc'],),
                (('y', 'cc'), ('x', 'cc')), (('x', 'cc'), ('x', 'cc')), (('x', 'tcc'), ('x', 'cc')), (None,),
                nested(('x', 'cc'), 29), Book())
SUPPOSED = (('x', 'cc'), ('x', 'tcc'))


def book_of(sources, unlike, *builds):
    """A book of these builds, by p and q."""
    return (sources, (('p', 1), ('q', 1)), unlike, builds)


class FactsTest(BookCase):

    def test_example(self):
        found = [facts_of(BOOK, ('bob', 'cy')), facts_of(BOOK, ('cy',)), clashes_of(SPLIT, ALL), is_calm(SPLIT, ('bob', 'cy'))]
        self.assert_same(found, [(('t', 'tcc'), ('x', 'cc'), ('y', 'cc')), (), (('parted', 1, 4),), True])

    def test_supposed_and_vouched(self):
        self.assert_same([facts_of(ALONE, ()), facts_of(EMPTY, ())], [(), ()])
        self.assert_same(facts_of(ALONE, (), supposed=(('new', 'tcc'), ('x', 'tcc'))), (('new', 'tcc'), ('x', 'tcc')))
        self.assert_same(facts_of(ALONE, ('ann',)), (('x', 'cc'),))
        self.assert_same(facts_of(book=BOOK, trusted=('bob',), supposed=(('q', 'cc'),)), (('q', 'cc'), ('t', 'tcc')))

    def test_built(self):
        self.assert_same(facts_of(BOOK, ('cy',), supposed=(('t', 'tcc'),)), (('t', 'tcc'), ('x', 'cc'), ('y', 'cc')))
        # A file that is right for a source that compiles another language gives nothing.
        self.assert_same(facts_of(LINKED, ('bob',), supposed=(('k', 'lib'), ('l', 'lib'))), (('k', 'lib'), ('l', 'lib')))
        both = (('k', 'cc'), ('l', 'lib'))
        self.assert_same(facts_of(LINKED, ('ann',)), both)
        self.assert_same(facts_of(LINKED, ('ann', 'bob')), (('a', 'app'),) + both + (('n', 'net'),))

    def test_parts_have_to_be_right_at_their_places(self):
        self.assert_same(facts_of(LINKED, ('bob',), supposed=(('k', 'cc'),)), (('k', 'cc'),))
        swapped = (('k', 'cc'), ('l', 'net'), ('n', 'lib'))
        self.assert_same(facts_of(LINKED, ('bob',), supposed=swapped), swapped)
        given = (('k', 'cc'), ('l', 'lib'), ('n', 'net'))
        self.assert_same(facts_of(LINKED, ('bob',), supposed=given), (('a', 'app'),) + given)

    def test_builds_ahead_of_what_they_need(self):
        book = BOOK[:3] + (BOOK[3][::-1],)
        self.assert_same(facts_of(book, ('bob', 'cy')), (('t', 'tcc'), ('x', 'cc'), ('y', 'cc')))
        chain = tuple(('cy', f'f{k}', 'cc', (), f'f{k + 1}') for k in range(300))
        for said in (chain, chain[::-1]):
            self.assertEqual(len(facts_of((SOURCES, PARTIES, (), said), ('cy',), supposed=(('f0', 'cc'),))), 301)

    def test_moved(self):
        names = tuple((name, 'c', (), True, ()) for name in 'abcd')
        book = book_of(names, (), ('p', None, 'a', (), 'f'), ('p', None, 'b', (), 'f'), ('p', None, 'b', (), 'g'),
                       ('q', None, 'c', (), 'g'), ('q', None, 'd', (), 'h'))
        f, g = (('f', 'a'), ('f', 'b')), (('g', 'a'), ('g', 'b'))
        self.assert_same(facts_of(book, ('p',)), f + g)
        self.assert_same(facts_of(book, ('p', 'q')), f + (('f', 'c'),) + g + (('g', 'c'), ('h', 'd')))
        self.assert_same(facts_of(book, ('q',)), (('g', 'c'), ('h', 'd')))
        # A source that compiles can be reached by moving, too, and then its files build.
        compiled = book_of(SOURCES[:1] + (('z', 'c', (), True, ()),), (), ('p', 'h', 'z', (), 'i'))
        moved = (('g', 'cc'), ('g', 'z'), ('h', 'z'))
        self.assert_same(facts_of(compiled, ('p',), supposed=moved),
                         (('g', 'cc'), ('g', 'z'), ('h', 'cc'), ('h', 'z'), ('i', 'cc'), ('i', 'z')))

    def test_against_the_plain_rules(self):
        shown = clashed = 0
        for seed in range(250):
            book = random_book(seed)
            supposed = random_facts(seed, book)
            for trusted in subsets(party_names(book)):
                facts = tuple(sorted(plain_facts(book, trusted, supposed)))
                clashes = tuple(sorted(plain_clashes(book, trusted, supposed)))
                self.assert_same(facts_of(book, trusted, supposed=supposed), facts)
                self.assert_same(clashes_of(book, trusted, supposed=supposed), clashes)
                self.assertIs(is_calm(book, trusted, supposed=supposed), not clashes)
                shown, clashed = shown + len(facts), clashed + len(clashes)
        self.assertGreater(shown, 5000)
        self.assertGreater(clashed, 500)


class ClashesTest(BookCase):

    def test_unlike(self):
        told = with_unlike(ALONE, 'cc', 'tcc')
        self.assert_same(clashes_of(told, (), supposed=SUPPOSED), (('unlike', 'x', 'cc', 'tcc'),))
        self.assert_same([clashes_of(ALONE, (), supposed=SUPPOSED), clashes_of(told, ALL)], [(), ()])
        self.assertIs(is_calm(told, ('ann',), supposed=(('x', 'tcc'),)), False)
        self.assert_same(clashes_of(told, ('ann',), supposed=(('x', 'tcc'),)), (('unlike', 'x', 'cc', 'tcc'),))

    def test_parted(self):
        self.assert_same([clashes_of(SPLIT, names) for names in subsets(ALL)], [()] * 7 + [(('parted', 1, 4),)])
        self.assert_same(clashes_of(SPLIT, ('cy',), supposed=(('x', 'cc'), ('y', 'cc'))), (('parted', 1, 4),))
        # One compiler that gives two files is as much a clash.
        twice = with_build(ALONE, ('ann', 'x', 'cc', (), 'q'))
        self.assert_same(clashes_of(twice, ('ann', 'cy')), (('parted', 1, 2),))
        self.assert_same([clashes_of(twice, ('ann',)), clashes_of(twice, ('cy',), supposed=(('x', 'cc'),))], [(), ()])

    def test_parted_needs_one_steady_source(self):
        loose = ((SOURCES[0][:3] + (False, ()), SOURCES[1]),) + SPLIT[1:]
        self.assert_same(clashes_of(loose, ALL), ())
        other = (('x', 'cc'), ('y', 'tcc'))
        self.assert_same(clashes_of(SPLIT, ('cy',), supposed=other), ())
        # The compilers are right for the steady source as well when they are right for a loose one first.
        told = (('x', 'cc'), ('x', 'tcc'), ('y', 'cc'))
        self.assert_same(clashes_of(loose, ('cy',), supposed=told), (('parted', 1, 4),))

    def test_parted_needs_nothing_else(self):
        # The source is not of a language that the compiler compiles, and the parts are right for nothing.
        sources = (('a', 'c', (), True, ()), ('b', 'd', (), False, ('a',)))
        book = book_of(sources, (), ('p', 'f', 'b', ('h',), 'i'), ('p', 'g', 'b', ('h',), 'j'), ('p', 'g', 'b', ('i',), 'k'),
                       ('p', 'g', 'a', (), 'l'), ('p', None, 'b', (), 'm'), ('q', 'f', 'b', ('h',), 'i'))
        supposed = (('f', 'a'), ('g', 'a'))
        self.assert_same(clashes_of(book, ('p',), supposed=supposed), (('parted', 0, 1),))
        self.assert_same(clashes_of(book, ('p', 'q'), supposed=supposed), (('parted', 0, 1), ('parted', 1, 5)))
        self.assert_same([clashes_of(book, ('q',), supposed=supposed), clashes_of(book, ('p',), supposed=supposed[:1])], [(), ()])

    def test_vouchings_are_never_parted(self):
        book = book_of(SOURCES[:1], (), ('p', None, 'cc', (), 'x'), ('p', None, 'cc', (), 'y'))
        self.assert_same([clashes_of(book, ('p', 'q')), is_calm(book, ('p',))], [(), True])

    def test_both_kinds(self):
        book = with_unlike(SPLIT, 'cc', 'tcc')
        clashes = (('parted', 1, 4), ('unlike', 'x', 'cc', 'tcc'), ('unlike', 'y', 'cc', 'tcc'), ('unlike', 'z', 'cc', 'tcc'))
        self.assert_same(clashes_of(book, ('ann', 'cy'), supposed=(('x', 'tcc'), ('y', 'cc'))), clashes)
        self.assert_same(len(facts_of(book, ('ann', 'cy'), supposed=(('x', 'tcc'), ('y', 'cc')))), 6)


class ClassesTest(BookCase):

    def test_classes(self):
        self.assert_same([classes_of(BOOK, ALL), classes_of(EMPTY, ())], [(('cc',), ('tcc',)), ()])
        self.assert_same(classes_of(book=BOOK, trusted=('ann',), supposed=(('x', 'tcc'),)), (('cc', 'tcc'),))
        names = tuple((name, 'c', (), True, ()) for name in 'abcde')
        book = book_of(names, (), ('p', None, 'c', (), 'f'), ('p', None, 'a', (), 'f'), ('q', None, 'e', (), 'g'),
                       ('q', None, 'c', (), 'g'), ('q', None, 'd', (), 'h'))
        self.assert_same(classes_of(book, ('p', 'q')), (('a', 'c', 'e'), ('b',), ('d',)))
        self.assert_same(classes_of(book, ('q',)), (('a',), ('b',), ('c', 'e'), ('d',)))

    def test_against_the_facts(self):
        for seed in range(120):
            book = random_book(seed)
            supposed = random_facts(seed, book)
            for trusted in subsets(party_names(book)):
                facts = plain_facts(book, trusted, supposed)
                files = {file for file, _ in facts}
                rows = set()
                for name in source_names(book):
                    rows.add(tuple(other for other in source_names(book) if other == name or any(
                        {(file, name), (file, other)} <= facts for file in files)))
                self.assert_same(classes_of(book, trusted, supposed=supposed), tuple(sorted(rows)))


class ErrorsTest(BookCase):

    def test_trusted(self):
        for call in CALLS:
            for thing in NO_PARTY_SETS:
                self.assert_not_usable('trusted', call, BOOK, thing)
                self.assert_not_usable('trusted', call, BOOK, thing, supposed=None)

    def test_supposed(self):
        for call in CALLS:
            for thing in NO_FACT_SETS + NO_NAMES:
                if thing != ():
                    self.assert_not_usable('supposed', call, BOOK, ('ann',), supposed=thing)
            self.assertRaises(TypeError, call, BOOK, (), ())


class ConsequencesTest(BookCase):

    def test_facts_supposed_again(self):
        for seed in range(60):
            book = random_book(seed)
            for trusted in subsets(party_names(book)):
                facts = facts_of(book, trusted)
                self.assert_same(facts_of(book, trusted, supposed=facts), facts)
                self.assert_same(clashes_of(book, trusted, supposed=facts), clashes_of(book, trusted))
                for one in facts:
                    for other in facts:
                        if one[1] == other[1]:
                            self.assertEqual({s for f, s in facts if f == one[0]}, {s for f, s in facts if f == other[0]})

    def test_nothing_is_lost_with_more(self):
        for seed in range(60):
            book = random_book(seed)
            names = party_names(book)
            facts, clashes = set(facts_of(book, names)), set(clashes_of(book, names))
            for trusted in subsets(names):
                self.assertLessEqual(set(facts_of(book, trusted)), facts)
                self.assertLessEqual(set(clashes_of(book, trusted)), clashes)
            supposed = random_facts(seed, book)
            self.assertLessEqual(facts, set(facts_of(book, names, supposed=supposed)))
            self.assertLessEqual(clashes, set(clashes_of(book, names, supposed=supposed)))
            if book[3]:
                less = without_build(book, len(book[3]) - 1)
                self.assertLessEqual(set(facts_of(less, names)), facts)
                self.assertLessEqual(set(clashes_of(less, names)), clashes)

    def test_the_book_is_not_changed(self):
        before = repr(SPLIT)
        for call in CALLS:
            call(SPLIT, ALL, supposed=SUPPOSED)
        self.assertEqual(repr(SPLIT), before)


if __name__ == '__main__':
    unittest.main()
