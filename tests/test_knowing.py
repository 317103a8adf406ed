"""Promises [29] and [30]: Knowledge, its properties, methods and operators."""

import random

from rebuiltby.bookchanges import with_build, with_unlike, with_weight
from rebuiltby.bookclasses import Book
from rebuiltby.knowing import Knowledge
from rebuiltby.standings import Standing
from rebuiltby.watches import Watch
from tests.books import ALL, ALONE, BOOK, EARLY, EMPTY, LINKED, NO_NAMES, PARTIES, SOURCES, SPLIT, BookCase
from tests.books import party_names, plain_clashes, plain_facts, random_book, source_names, subsets

FILES = ('f0', 'f1', 'f2', 'f3', 'f4', 'f5', 'g')
# Objects of the package are values, too.
OBJECTS = (Book(), Book(*BOOK), Standing(0, 1), Watch(ALONE), Knowledge(ALONE), Knowledge(BOOK, 'ann'))
NO_PARTIES = NO_NAMES + OBJECTS + ('dan', 'cc', 'x', 'c', ('ann', 1), ('ann', 'bob'))


def plain(book, trusted):
    """What the parties show and the clashes that they have, by [5], as sets."""
    return tuple(sorted(plain_facts(book, trusted))), tuple(sorted(plain_clashes(book, trusted)))


class KnowledgeCase(BookCase):

    def assert_knowledge(self, told, book, trusted):
        """The value is a Knowledge of these parties, and tells what [5] tells of them."""
        self.assertIs(type(told), Knowledge)
        facts, clashes = plain(book, trusted)
        self.assert_same([told.trusted, told.facts, told.clashes], [tuple(sorted(trusted)), facts, clashes])
        self.assert_same([len(told), bool(told)], [len(facts), not clashes])
        self.assertTrue(told == Knowledge(book, *trusted))


class ValueTest(KnowledgeCase):

    def test_example(self):
        both = Knowledge(BOOK, 'cy', 'bob')
        told = [('x', 'cc') in both, len(both), both('y'), (both - 'cy').facts, both <= Knowledge.of_all(BOOK)]
        self.assert_same(told, [True, 3, ('cc',), (('t', 'tcc'),), True])
        self.assert_same((both & Knowledge(BOOK, 'ann')).trusted, ())

    def test_parties_in_any_order(self):
        for names in (('ann', 'bob', 'cy'), ('cy', 'bob', 'ann'), ('cy', 'ann', 'cy', 'bob', 'bob', 'ann')):
            self.assert_knowledge(Knowledge(BOOK, *names), BOOK, ALL)
        self.assert_knowledge(Knowledge(BOOK, 'bob', 'bob'), BOOK, ('bob',))
        self.assert_knowledge(Knowledge(book=BOOK), BOOK, ())
        self.assert_knowledge(Knowledge(EMPTY), EMPTY, ())

    def test_by_the_rules(self):
        clashing = 0
        for seed in range(80):
            book = random_book(seed)
            dice = random.Random(seed)
            for trusted in subsets(party_names(book)):
                names = list(trusted) + dice.choices(trusted, k=2) if trusted else []
                dice.shuffle(names)
                told = Knowledge(book, *names)
                self.assert_knowledge(told, book, trusted)
                facts = plain_facts(book, trusted)
                for file in FILES:
                    self.assert_same(told(file), tuple(sorted(source for shown, source in facts if shown == file)))
                    for source in source_names(book) + ('no',):
                        self.assert_same((file, source) in told, (file, source) in facts)
                clashing += not told
        self.assertGreater(clashing, 20)

    def test_truth_is_not_length(self):
        self.assert_same([bool(Knowledge(BOOK)), len(Knowledge(BOOK))], [True, 0])
        self.assert_same([bool(Knowledge(SPLIT, *ALL)), len(Knowledge(SPLIT, *ALL))], [False, 4])
        self.assert_same([bool(Knowledge(SPLIT, 'bob', 'cy')), len(Knowledge(SPLIT, 'bob', 'cy'))], [True, 3])
        # Two builds that part, and nothing else that is shown but what is needed for it.
        told = (('ann', None, 'cc', (), 'x'), ('ann', None, 'tcc', (), 'x'))
        clash = Knowledge((SOURCES, PARTIES, (('cc', 'tcc'),), told), 'ann')
        self.assert_same([bool(clash), len(clash), clash.clashes], [False, 2, (('unlike', 'x', 'cc', 'tcc'),)])

    def test_what_is_in_it(self):
        told = Knowledge.of_all(BOOK)
        for thing in NO_NAMES + OBJECTS + ('x', ['x', 'cc'], ('x', 'cc', 'cc'), ('x',), ('x', 'tcc'), ('cc', 'x'), (('x', 'cc'),)):
            self.assert_same([thing in told, thing not in told], [False, True])
        self.assert_same([fact in told for fact in told.facts], [True, True, True])

    def test_sources_of_a_file(self):
        told = Knowledge.of_all(with_build(BOOK, ('ann', None, 'tcc', (), 'x')))
        self.assert_same([told('x'), told(file='y'), told('t'), told('q')], [('cc', 'tcc'), ('cc', 'tcc'), ('cc', 'tcc'), ()])
        self.assert_same([Knowledge(LINKED)('k'), Knowledge(LINKED, 'ann')('k')], [(), ('cc',)])
        for thing in NO_NAMES + OBJECTS:
            self.assert_not_usable('file', told, thing)
            self.assert_not_usable('file', Knowledge(EMPTY), file=thing)

    def test_all_and_nothing(self):
        for book in (ALONE, BOOK, SPLIT, LINKED, EMPTY, EARLY):
            for told in (Knowledge.of_all(book), Knowledge.of_all(book=book), Knowledge(book).of_all(book)):
                self.assert_knowledge(told, book, party_names(book))
            for told in (Knowledge.nothing(book), Knowledge.nothing(book=book), Knowledge(BOOK, 'ann').nothing(book)):
                self.assert_knowledge(told, book, ())
        self.assertIsInstance(vars(Knowledge)['of_all'], classmethod)
        self.assertIsInstance(vars(Knowledge)['nothing'], staticmethod)

    def test_it_does_not_change(self):
        told = Knowledge(SPLIT, *ALL)
        before = [told.trusted, told.facts, told.clashes]
        for name in ('trusted', 'facts', 'clashes'):
            self.assertIsInstance(vars(Knowledge)[name], property)
            with self.assertRaises(AttributeError):
                setattr(told, name, ())
        other = Knowledge(SPLIT, 'ann')
        for _ in (told + 'ann', told - 'ann', told & other, told | other, told <= other, told >= other, told == other, told('x')):
            self.assert_same([told.trusted, told.facts, told.clashes], before)
        same = told
        same += 'ann'
        same -= 'ann'
        same |= other
        same &= other
        self.assert_same([told.trusted, told.facts, told.clashes], before)
        self.assert_knowledge(same, SPLIT, ('ann',))

    def test_errors(self):
        for thing in NO_PARTIES:
            self.assert_not_usable('trusted', Knowledge, BOOK, thing, told_at=0)
            self.assert_not_usable('trusted', Knowledge, BOOK, thing, 'ann', thing, told_at=0)
            self.assert_not_usable('trusted', Knowledge, BOOK, 'ann', 'ann', thing, None, told_at=2)
        self.assert_not_usable('trusted', Knowledge, EMPTY, 'ann', told_at=0)
        self.assert_not_usable('trusted', Knowledge, BOOK, ALL, told_at=0)


class OperatorsTest(KnowledgeCase):

    def test_with_and_without_a_party(self):
        for seed in range(40):
            book = random_book(seed)
            for trusted in subsets(party_names(book)):
                told = Knowledge(book, *trusted)
                for name in party_names(book):
                    self.assert_knowledge(told + name, book, tuple({*trusted, name}))
                    self.assert_knowledge(told - name, book, tuple({*trusted} - {name}))
        told = Knowledge(BOOK, 'bob')
        self.assertIsNot(told + 'bob', told)
        self.assertIsNot(told - 'cy', told)

    def test_no_parties(self):
        for told in (Knowledge(BOOK), Knowledge(BOOK, 'ann'), Knowledge.of_all(SPLIT)):
            for thing in NO_PARTIES + (told,):
                self.assert_not_usable('party', lambda: told + thing)
                self.assert_not_usable('party', lambda: told - thing)

    def test_both_and_either(self):
        for seed in range(25):
            book = random_book(seed, parties=3)
            for one in subsets(party_names(book)):
                for other in subsets(party_names(book)):
                    left, right = Knowledge(book, *one), Knowledge(tuple(list(book)), *other)
                    self.assert_knowledge(left & right, book, tuple({*one} & {*other}))
                    self.assert_knowledge(left | right, book, tuple({*one} | {*other}))
        told = Knowledge(BOOK, 'ann')
        self.assertIsNot(told & told, told)
        self.assertIsNot(told | told, told)

    def test_no_knowledge_of_this_book(self):
        told = Knowledge(BOOK, 'ann')
        others = [
            ALONE, SPLIT, EMPTY, LINKED, with_weight(BOOK, 'cy', 2), with_unlike(BOOK, 'cc', 'tcc'),
            BOOK[:3] + (BOOK[3][::-1],), BOOK[:3] + (BOOK[3] + (('ann', None, 'cc', (), 'y'),),)]
        things = [Knowledge.of_all(book) for book in others] + [Knowledge(book) for book in others]
        for thing in NO_PARTIES + ('ann', ('ann',), BOOK, told.facts, (told,)):
            if not (type(thing) is Knowledge and thing == told):
                things.append(thing)
        for thing in things:
            self.assert_not_usable('other', lambda: told & thing)
            self.assert_not_usable('other', lambda: told | thing)
            self.assertFalse(told == thing)
            self.assertTrue(told != thing)

    def test_less_and_more(self):
        known = {True: 0, False: 0}
        for seed in range(40):
            one, other = random_book(seed, parties=2), random_book(seed + 1, parties=2)
            for book in (one, other):
                for left in subsets(party_names(one)):
                    for right in subsets(party_names(book)):
                        less, more = Knowledge(one, *left), Knowledge(book, *right)
                        found = plain_facts(one, left) <= plain_facts(book, right)
                        self.assert_same([less <= more, more >= less], [found, found])
                        known[found] += 1
        self.assertTrue(min(known.values()) > 100, known)
        # Of any book, and whatever clashes.
        self.assert_same([Knowledge(EMPTY) <= Knowledge(BOOK), Knowledge(EMPTY) >= Knowledge(BOOK)], [True, True])
        self.assert_same(Knowledge.of_all(SPLIT) >= Knowledge.of_all(BOOK), True)
        self.assert_same(Knowledge.of_all(SPLIT) <= Knowledge.of_all(BOOK), False)
        told = Knowledge(ALONE, 'ann')
        self.assert_same([told <= told, told >= told], [True, True])

    def test_less_and_more_of_other_values(self):
        # The operators of the other classes hold as they are.
        told = Knowledge(BOOK, 'ann')
        self.assert_same(Book(*BOOK) <= told, False)
        self.assert_not_usable('other', lambda: Book(*BOOK) | told)
        self.assert_not_usable('other', lambda: Standing(0, 1) + told)
        self.assert_paper('build', 5, lambda: Book(*BOOK) + told)

    def test_equal(self):
        for seed in range(20):
            book = random_book(seed, parties=3)
            for one in subsets(party_names(book)):
                for other in subsets(party_names(book)):
                    left, right = Knowledge(book, *one), Knowledge(tuple(list(book)), *other[::-1])
                    self.assert_same([left == right, left != right], [one == other, one != other])
        # Of parties that show the same the trusted ones count, and so does the book.
        self.assert_same(Knowledge(BOOK) == Knowledge(BOOK, 'cy'), False)
        self.assert_same(Knowledge(BOOK) == Knowledge(ALONE), False)
        self.assert_same(Knowledge(BOOK, 'cy', 'ann') == Knowledge(BOOK, 'ann', 'cy', 'ann'), True)

    def test_equal_to_no_other_value(self):
        told = Knowledge(BOOK, 'ann')
        for thing in NO_NAMES + OBJECTS[:5] + ('ann', ('ann',), told.facts, (('x', 'cc'),), [told], (told,)):
            self.assert_same([told == thing, thing == told, told != thing, thing != told], [False, False, True, True])
