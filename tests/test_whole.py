"""The whole program: what [8] promises over all modules, and calls by name and by position."""

import importlib
import inspect
import random

from rebuiltby.bookchanges import with_build
from rebuiltby.bookclasses import Book, Renamed, Weighted
from rebuiltby.bookparts import files_of, weight_of
from rebuiltby.booktexts import book_text
from rebuiltby.claimnumbers import base_of, right_of, wrong_of
from rebuiltby.closing import facts_of, is_calm
from rebuiltby.comparing import are_alike, difference
from rebuiltby.desk import Desk
from rebuiltby.differencechecker import lets_difference
from rebuiltby.errors import InvalidPaper, RebuiltError
from rebuiltby.eventtexts import event_line, log_lines
from rebuiltby.judging import cleared, suspects, sure_facts, verdict
from rebuiltby.knowing import Knowledge
from rebuiltby.leaning import lean_book
from rebuiltby.leastsets import bad_sets, right_sets, wrong_sets
from rebuiltby.numberchecker import lets_number
from rebuiltby.numberpapers import number_paper
from rebuiltby.orderkinds import is_decided, orders
from rebuiltby.ordering import plain_answer
from rebuiltby.planning import plan_to
from rebuiltby.replaying import replayed
from rebuiltby.rounds import after_rounds, full_book, rounds_to, sure_of
from rebuiltby.standings import Standing, standing_of
from rebuiltby.stepsmaking import steps_to, steps_to_clash
from rebuiltby.tablechecker import lets_table
from rebuiltby.tablemaking import table_of
from rebuiltby.unseen import Unseen, unseen_sets
from rebuiltby.watches import Watch
from rebuiltby.worlds import World
from tests.books import ALL, ALONE, BOOK, EARLY, MORE, PARTIES, SOURCES, SPLIT, BookCase
from tests.books import party_names, random_book, source_names, subsets
from tests.test_interface import FUNCTIONS, class_of
from tests.test_leastsets import without
from tests.test_numberchecker import DOUBLE
from tests.test_orderkinds import plain_decisions
from tests.test_planning import PLAN
from tests.test_replaying import LOG
from tests.test_rounds import small_books
from tests.test_watches import random_event

TABLE = (('t', 'tcc'), ('x', 'cc'), ('y', 'cc'))
FIRST = ('bob', 't', 'cc', ())
CLASH = (('vouched', 0), ('vouched', 2), ('built', 3, 1, ()), ('parted', 1, 4, 0, 2))
DIFFERENCE = (1, ('bob',), (), ('t', 'tcc'), (('vouched', 2),), ())
# For each function of the interface its arguments, those that are passed by name only in the dict behind them.
ARGUMENTS = {
    'is_integer': (3,), 'is_number': (-3,), 'is_name': ('ann',), 'is_set': (ALL,), 'is_source': (SOURCES[0],),
    'is_party': (PARTIES[0],), 'is_build': (MORE[0],), 'is_fact': (('x', 'cc'),), 'is_book': (BOOK,), 'lets_book': (BOOK,),
    'files_of': (BOOK,), 'weight_of': (BOOK, ('ann', 'cy')), 'builds_by': (BOOK, 'cy'), 'builds_of': (BOOK, 'x'),
    'compiling': (BOOK, 'c'), 'uses_below': (BOOK, 'cc'), 'with_build': (ALONE, MORE[0], {'at': 1}), 'without_build': (BOOK, 1),
    'with_weight': (BOOK, 'ann', 5), 'with_unlike': (BOOK, 'tcc', 'cc'),
    'without_unlike': (BOOK[:2] + ((('cc', 'tcc'),),) + BOOK[3:], 'tcc', 'cc'), 'joined': (ALONE, EARLY),
    'renamed': (BOOK, {'parties': (('ann', 'zoe'),), 'sources': (('cc', 'zz'),), 'files': (('x', 'a'),)}),
    'source_line': (SOURCES[0],), 'party_line': (PARTIES[0],), 'unlike_line': (('b', 'a'),), 'build_line': (MORE[0],),
    'book_text': (BOOK,), 'source_read': ('source cc c steady c -', {'line': 3}), 'party_read': ('party ann 0', {'line': 3}),
    'unlike_read': ('unlike b a', {'line': 3}), 'build_read': ('build a b c d', {'line': 3}), 'book_read': ('party ann 1',),
    'facts_of': (BOOK, ('cy',), {'supposed': TABLE[:1]}), 'clashes_of': (SPLIT, ALL, {'supposed': TABLE[:1]}),
    'is_calm': (SPLIT, ('cy',), {'supposed': TABLE}), 'classes_of': (BOOK, (), {'supposed': (('q', 'cc'), ('q', 'tcc'))}),
    'steps_to': (BOOK, ('cy',), 'x', 'cc', {'supposed': TABLE[:1]}), 'steps_to_clash': (SPLIT, ('cy',), {'supposed': TABLE}),
    'lets_steps': (SPLIT, CLASH, {'supposed': ()}), 'table_of': (BOOK, ('cy',), {'supposed': TABLE[:1]}),
    'lets_table': (BOOK, ('cy',), TABLE, {'supposed': TABLE[:1]}), 'base_of': (SPLIT,), 'wrong_of': (BOOK, 'x', 'cc'),
    'right_of': (SPLIT, 'y', 'cc'), 'bad_sets': (SPLIT,), 'wrong_sets': (BOOK, 'x', 'cc'), 'right_sets': (SPLIT, 'y', 'cc'),
    'supports': (BOOK, 'x', 'cc'), 'clash_sets': (SPLIT,), 'standing_of': (BOOK, 'x', 'cc'), 'verdict': (BOOK, 'x', 'cc', 1),
    'sure_facts': (BOOK, 0), 'suspects': (SPLIT, 1), 'cleared': (SPLIT, 1),
    'number_paper': (BOOK, 'wrong', {'file': 'x', 'source': 'cc'}), 'lets_number': (BOOK, 'wrong', DOUBLE, {'file': 'x', 'source': 'cc'}),
    'orders': (EARLY,), 'is_decided': (EARLY, *FIRST), 'plain_answer': (EARLY, *FIRST), 'after_rounds': (EARLY, 1),
    'full_book': (EARLY,), 'rounds_to': (EARLY, 'x', 'cc', 1), 'sure_of': (EARLY, 'x', 'cc'), 'unseen_sets': (EARLY, 'x', 'cc'),
    'plan_to': (EARLY, 'x', 'cc', 1), 'lets_plan': (EARLY, 'x', 'cc', 1, PLAN), 'are_alike': (ALONE, EARLY),
    'difference': (ALONE, EARLY), 'lets_difference': (ALONE, EARLY, DIFFERENCE), 'needless_builds': (BOOK,), 'lean_book': (BOOK,),
    'event_line': (LOG[1],), 'log_lines': (LOG,), 'is_log': (LOG,), 'replayed': (LOG,), 'read_event': ('claim x cc',),
    'read_log': (log_lines(LOG),),
}
# For each class what is passed to it by position, and what may be passed by name as well.
MAKING = {
    'Book': (BOOK, {}), 'Weighted': (BOOK, {}), 'Renamed': (BOOK, {'files': (('x', 'w'),)}), 'Knowledge': ((BOOK,), {}),
    'World': ((BOOK, ('ann',), TABLE), {}), 'Standing': ((1, 2), {}), 'Unseen': ((EARLY, ('ann', 'bob'), 'x', 'cc'), {}),
    'Watch': ((ALONE,), {'budget': 3}), 'Desk': ((ALONE,), {}),
    'InvalidPaper': (('a', 1), {}), 'NotUsable': (('a', 1), {}), 'NotCalm': ((1,), {}), 'InvalidEvent': ((1, 2), {}),
    'NothingToUndo': ((0,), {}), 'InvalidText': ((1, 2), {}), 'InvalidRow': (('row',), {}),
}


def told_by(call, *args, **kwargs):
    """What the call returns, or the class and the fields of its error."""
    try:
        return call(*args, **kwargs)
    except RebuiltError as error:
        return type(error), vars(error)


def split(told):
    """What is passed by position, and what by name only."""
    return (told[:-1], told[-1]) if type(told[-1]) is dict else (told, {})


def by_name(call, args):
    """The arguments with the names of the parameters."""
    return dict(zip(inspect.signature(call).parameters, args))


class CallsTest(BookCase):

    def test_functions(self):
        named = {name for rows in FUNCTIONS.values() for name in rows}
        self.assertEqual(named - set(ARGUMENTS), {'answered'})
        for module, rows in FUNCTIONS.items():
            for name in rows:
                if name in ARGUMENTS:
                    call = getattr(importlib.import_module(f'rebuiltby.{module}'), name)
                    args, more = split(ARGUMENTS[name])
                    before = repr((args, more))
                    told = told_by(call, *args, **more)
                    self.assertEqual(told, told_by(call, **by_name(call, args), **more), name)
                    rest = dict(list(by_name(call, args).items())[1:])
                    self.assertEqual(told, told_by(call, args[0], **rest, **more), name)
                    self.assertEqual(repr((args, more)), before, name)

    def test_classes(self):
        for name, (args, more) in MAKING.items():
            made = class_of(name)(*args, **more)
            other = class_of(name)(**by_name(class_of(name), args), **more)
            self.assertIs(type(made), type(other))
            self.assertEqual(self.state(made), self.state(other), name)

    def state(self, thing):
        """The attributes of an object, as they are shown, but for those that are objects themselves."""
        return {name: repr(value) for name, value in vars(thing).items() if 'object at' not in repr(value)}

    def test_any_number_of_arguments(self):
        self.assert_same(Book.plain('bob', 'ann').parties, (('ann', 1), ('bob', 1)))
        self.assert_same(Weighted(*ALONE, ('ann', 3), ('ann', 4)).parties[0], ('ann', 4))
        self.assert_same(Knowledge(BOOK, 'cy', 'bob').trusted, ('bob', 'cy'))
        self.assert_same(len(Renamed(*ALONE)), 2)

    def test_results_are_new_and_tuples(self):
        for call in (files_of, bad_sets, orders):
            self.assertIs(type(call(EARLY)), tuple)
        lines = log_lines(LOG)
        lines.clear()
        self.assertEqual(len(log_lines(LOG)), 12)
        watch = Watch(ALONE)
        watch.add_claim('x', 'cc')
        watch.table().clear()
        self.assertEqual(len(watch.table()), 1)


class PromisesTest(BookCase):

    def books(self, seeds):
        """Some small books, each with some of its claims."""
        for seed in seeds:
            book = random_book(seed, sources=4, parties=3, builds=11, files=4)
            yield book, [(file, source) for file in ('f0', 'f1', 'g') for source in source_names(book)]

    def test_worlds_of_trusted_parties(self):
        # (G1): all that the parties show, and nothing else, is true in some world; if they clash, there is none.
        for book, claims in self.books(range(60)):
            for bad in subsets(party_names(book)):
                others = without(book, bad)
                knowledge, table = Knowledge(book, *others), table_of(book, others)
                self.assertEqual(table is None, not knowledge)
                if table is None:
                    self.assertIsNotNone(steps_to_clash(book, others))
                    with self.assertRaises(InvalidPaper):
                        World(book, bad, knowledge.facts)
                else:
                    world = World(book, bad, facts_of(book, others))
                    for fact in claims:
                        self.assertEqual(world.is_right(*fact), fact in knowledge)
                        self.assertEqual(steps_to(book, others, *fact) is None, fact not in knowledge)
                        self.assertEqual(world[fact[0]], knowledge(fact[0]))

    def test_verdicts_by_worlds(self):
        # (G3): right or wrong is what is so in all worlds with bad parties of at most this weight, if there is one.
        words = set()
        for book, claims in self.books(range(100, 150)):
            for budget in range(4):
                sets = [bad for bad in subsets(party_names(book)) if weight_of(book, bad) <= budget]
                tables = [table_of(book, without(book, bad)) for bad in sets]
                tables = [table for table in tables if table is not None]
                for claim in claims:
                    always = all(claim in table for table in tables)
                    never = not any(is_calm(book, without(book, bad), supposed=(claim,)) for bad in sets)
                    word = 'none' if not tables else 'right' if always else 'wrong' if never else 'open'
                    words.add(word)
                    self.assertEqual(verdict(book, *claim, budget), word)
                    self.assertEqual(standing_of(book, *claim)(budget), word)
                    self.assertEqual(claim in sure_facts(book, budget), word == 'right')
        self.assertEqual(words, {'none', 'right', 'wrong', 'open'})

    def test_papers_of_all_numbers(self):
        for book, claims in self.books(range(200, 240)):
            self.assertEqual(lets_number(book, 'base', number_paper(book, 'base')), base_of(book))
            for file, source in claims:
                told = {'wrong': wrong_of(book, file, source), 'right': right_of(book, file, source)}
                for what, number in told.items():
                    paper = number_paper(book, what, file=file, source=source)
                    self.assertEqual(lets_number(book, what, paper, file=file, source=source), number)
                self.assertTrue(Standing(told['right'], told['wrong']) == standing_of(book, file, source))
                self.assertEqual(min(told.values()), base_of(book))

    def test_suspects_by_sets(self):
        for book, _ in self.books(range(300, 340)):
            for budget in range(4):
                sets = [bad for bad in subsets(party_names(book)) if weight_of(book, bad) <= budget
                        and any(set(one) <= set(bad) for one in bad_sets(book))]
                everybody = set(party_names(book)) if sets else set()
                self.assertEqual(set(suspects(book, budget)), everybody.intersection(*map(set, sets)))
                self.assertEqual(set(cleared(book, budget)), everybody.difference(*map(set, sets)))

    def test_lean_books(self):
        # (G6): books that show the same have the same numbers and least sets.
        for book, claims in self.books(range(400, 430)):
            lean = lean_book(book)
            self.assertTrue(are_alike(book, lean))
            self.assertEqual(bad_sets(book), bad_sets(lean))
            for claim in claims:
                self.assertEqual([wrong_sets(book, *claim), right_sets(book, *claim)], [wrong_sets(lean, *claim), right_sets(lean, *claim)])

    def test_differences_of_books(self):
        # Whatever is accepted parts the books: the sets of it show different things.
        for book, _ in self.books(range(500, 530)):
            for k in range(len(book[3])):
                other = book[:3] + (book[3][:k] + book[3][k + 1:],)
                paper = difference(book, other)
                if paper is not None:
                    side, trusted, supposed, what, _, table = paper
                    self.assertEqual([side, lets_difference(book, other, paper)], [0, 0])
                    self.assertTrue(is_calm(other, trusted, supposed=supposed))
                    shown = facts_of(book, trusted, supposed=supposed)
                    self.assertTrue(what in shown if what else not is_calm(book, trusted, supposed=supposed))
                    self.assertNotIn(what, facts_of(other, trusted, supposed=supposed))
                    self.assertEqual(lets_table(other, trusted, table, supposed=supposed), len(table))


class OrdersTest(BookCase):

    def claims(self, book):
        """Some claims of files of the book."""
        return [(file, source) for file in files_of(book) for source in source_names(book)][:8]

    def test_orders_with_any_files(self):
        # (G4): with any files, as long as the book stays calm, the numbers are in the end at least the sure ones.
        ends = 0
        for book in small_books(range(60)):
            sure = {claim: sure_of(book, *claim) for claim in self.claims(book)}
            for seed in range(2):
                dice = random.Random(seed)
                now = book
                while orders(now) and len(now[3]) < 60:
                    order = dice.choice(orders(now))
                    decided = plain_decisions(now, order)
                    fresh = f'm{len(now[3])}'
                    file = dice.choice(files_of(now)) if dice.random() < 0.15 else [*decided, fresh][0]
                    after = with_build(now, order + (file,))
                    calm = is_calm(after, party_names(after))
                    now = after if calm else with_build(now, order + ([*decided, fresh][0],))
                    self.assertTrue(is_calm(now, party_names(now)))
                if not orders(now):
                    ends += 1
                    for claim, number in sure.items():
                        self.assertGreaterEqual(wrong_of(now, *claim), number)
        self.assertGreater(ends, 60)

    def test_steps_of_further_builds(self):
        # (G5): nothing in n steps of further builds shows more than n rounds do.
        for book in small_books(range(100, 160)):
            for seed in range(2):
                dice = random.Random(seed)
                now = book
                for n in range(1, 4):
                    begun = orders(now)
                    for order in begun:
                        if dice.random() < 0.6:
                            file = plain_answer(now, *order) if is_decided(now, *order) else f'm{len(now[3])}'
                            now = with_build(now, order + (file,))
                    rounds = after_rounds(book, n)
                    for claim in self.claims(book):
                        self.assertLessEqual(wrong_of(book, *claim), wrong_of(rounds, *claim))
                        self.assertLessEqual(wrong_of(now, *claim), wrong_of(rounds, *claim))

    def test_plans_rounds_and_unseen_sets(self):
        for book in small_books(range(200, 270)):
            full = full_book(book)
            for claim in self.claims(book):
                sure = sure_of(book, *claim)
                self.assertEqual(sure, min(weight_of(book, bad) for bad in unseen_sets(book, *claim)))
                self.assertEqual(unseen_sets(book, *claim), wrong_sets(full, *claim))
                for budget in {0, max(sure - 1, 0), sure, sure + 1}:
                    plan = plan_to(book, *claim, budget)
                    self.assertEqual([plan is None, rounds_to(book, *claim, budget) is None], [sure <= budget] * 2)
                for bad in unseen_sets(book, *claim):
                    unseen = Unseen(book, bad, *claim)
                    for build in full[3][len(book[3]):]:
                        self.assertEqual(unseen.give(*build[:4]), build[4])
                    self.assert_same(unseen.book_now, full)
                    self.assertFalse(World(full, bad, unseen.table_now).is_right(*claim))

    def test_worlds_of_full_books(self):
        # A world of the full book answers its builds as they are, but those of bad parties that nobody else tells.
        for book in small_books(range(300, 330)):
            full = full_book(book)
            world = World(full, (), table_of(full, party_names(full)))
            for party, compiler, source, parts, file in full[3]:
                if compiler is not None and any(row[3] and (compiler, row[0]) in world.table_now for row in book[0]):
                    self.assert_same(world.give(party, compiler, source, parts), file)
            self.assert_same([world.book_now, world.table_now], [full, facts_of(full, party_names(full))])


class WatchesTest(BookCase):

    def test_watches_desks_and_logs(self):
        # (G6): a watch tells what the functions tell, and so do a desk and a watch that is replayed.
        for seed in range(40):
            dice = random.Random(seed)
            book = random_book(seed, sources=4, parties=3, builds=9, files=3)
            watch, desk = Watch(book, budget=1), Desk(book)
            desk.say('\n'.join(log_lines(watch.log())))
            for _ in range(16):
                event = random_event(dice, watch.book_now)
                if watch.barred(event) is None:
                    self.assert_same(desk.say(event_line(event)), str(watch.go(event)))
            now = watch.book_now
            self.assert_same(desk.say('log'), str(watch))
            self.assert_same(desk.say('book'), book_text(now).replace('\n', ' / ') or '-')
            told = ' '.join('@'.join((*claim, verdict(now, *claim, watch.budget_now))) for claim in watch.claims_now)
            self.assert_same(desk.say('verdicts'), told or '-')
            other = replayed(watch.log())
            self.assertTrue(other == watch)
            self.assert_same(other.verdicts_now(), watch.verdicts_now())
            self.assert_same(other.suspects_now(), suspects(now, watch.budget_now))
