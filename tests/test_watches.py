"""Promises [62] to [71], and of [72] what it says of log and str."""

import random
import types

from rebuiltby.bookchanges import with_build, with_unlike, with_weight
from rebuiltby.bookclasses import Book
from rebuiltby.claimnumbers import base_of, right_of, wrong_of
from rebuiltby.errors import InvalidEvent, NothingToUndo, NotUsable
from rebuiltby.eventtexts import event_line
from rebuiltby.judging import cleared, suspects, verdict
from rebuiltby.orderkinds import orders
from rebuiltby.standings import Standing, standing_of
from rebuiltby.watches import Watch
from tests.books import ALL, ALONE, BOOK, EARLY, EMPTY, LINKED, MORE, NO_NAMES, NO_NUMBERS, PARTIES, SOURCES, SPLIT, USED
from tests.books import BookCase, random_book, source_names
from tests.test_eventtexts import EVENTS
from tests.test_ordering import plain_is_open

X = ('claim', 'x', 'cc')
LEX = ('lex', 'c', (), False, ('cc', 'tcc'))
# One possible event of each form for a watch of ALONE, with the method that applies it.
POSSIBLE = (
    (('build', MORE[0]), lambda watch: watch.add_build(MORE[0]), lambda watch: watch.add_build(build=MORE[0])),
    (('source', LEX), lambda watch: watch.add_source(LEX), lambda watch: watch.add_source(source=LEX)),
    (('unlike', 'tcc', 'cc'), lambda watch: watch.add_unlike('tcc', 'cc'), lambda watch: watch.add_unlike(other='cc', one='tcc')),
    (('weight', 'bob', 7), lambda watch: watch.set_weight('bob', 7), lambda watch: watch.set_weight(weight=7, party='bob')),
    (X, lambda watch: watch.add_claim('x', 'cc'), lambda watch: watch.add_claim(source='cc', file='x')),
    (('budget', 3), lambda watch: watch.set_budget(3), lambda watch: watch.set_budget(k=3)),
)
NO_EVENTS = NO_NAMES + (
    Book(), Standing(1, 2), Watch(ALONE), 'build', ('build',), ('build', None), ('build', MORE[0], 1), ('build', MORE[0][:4]),
    ('build', *MORE[0]), ('build', list(MORE[0])), ('build', ('bob', None, 'tcc', ('t',), 't')), ('build', ('bob', 1, 'cc', (), 't')),
    ['build', MORE[0]], ('Build', MORE[0]), (MORE[0], 'build'), (MORE[0],), ('source',), ('source', 'cc'), ('source', SOURCES[0], 1),
    ('source', SOURCES[0][:4]), ('source', ('lex', 'c', ('d', 'c'), True, ())), ('source', ('lex', 'c', (), 1, ())),
    ('unlike',), ('unlike', 'cc'), ('unlike', ('cc', 'tcc')), ('unlike', 'cc', 'tcc', 'cc'), ('unlike', 'cc', 'T'), ('unlike', 1, 'cc'),
    ('weight',), ('weight', 'ann'), ('weight', 'ann', 0), ('weight', 'ann', -1), ('weight', 'ann', True), ('weight', 'ann', '1'),
    ('weight', 'Ann', 1), ('weight', None, 1), ('weight', ('ann', 1)), ('weight', 'ann', 1, 1), ('claim',), ('claim', 'x'),
    ('claim', ('x', 'cc')), ('claim', 'x', 'cc', 1), ('claim', 'X', 'cc'), ('claim', 'x', None), ('claim', 1, 'cc'),
    ('budget',), ('budget', -1), ('budget', True), ('budget', None), ('budget', '1'), ('budget', 1, 1), ('budget', (1,)),
    ('party', 'dan', 1), ('watch', ALONE, 0), ('undo',), ('', 1), (None, 1), (Book(), 1), (('budget',), 1), ((('budget', 1)),) * 2)


def plain_reason(book, claims, many, event):
    """Why an event by form is not possible by [63], behind so many events; or None."""
    kind, *told = event
    people, rows = [name for name, _ in book[1]], {row[0]: row for row in book[0]}
    if many >= 40 or kind == 'build' and len(book[3]) >= 16:
        return 'full'
    if kind == 'build' and told[0][0] not in people or kind == 'weight' and told[0] not in people:
        return 'party'
    named = {'build': [told[0][2]] if kind == 'build' else [], 'unlike': told, 'claim': told[1:]}.get(kind, [])
    if any(name not in rows for name in named) or kind == 'unlike' and told[0] == told[1]:
        return 'source'
    if kind == 'build' and told[0][1] is not None and len(told[0][3]) != len(rows[told[0][2]][4]):
        return 'parts'
    known = {
        'build': kind == 'build' and told[0] in book[3], 'source': kind == 'source' and told[0][0] in rows,
        'unlike': tuple(sorted(told, key=str)) in book[2], 'claim': tuple(told) in claims}
    if known.get(kind):
        return 'known'
    if kind == 'source' and any(use not in rows for use in told[0][4]):
        return 'uses'
    return None


def plain_after(book, budget, claims, event):
    """The book, the budget and the claims after a possible event."""
    kind, *told = event
    if kind == 'build':
        book = with_build(book, *told)
    elif kind == 'source':
        book = (tuple(sorted(book[0] + (told[0],))),) + book[1:]
    elif kind == 'unlike':
        book = with_unlike(book, *told)
    elif kind == 'weight':
        book = with_weight(book, *told)
    elif kind == 'claim':
        claims = tuple(sorted({*claims, tuple(told)}))
    else:
        budget = told[0]
    return book, budget, claims


def random_event(dice, book):
    """Some event by form, possible or not."""
    names = source_names(book) + ('new', 'more')
    files = ('f0', 'f1', 'f2', 'g')
    people = [name for name, _ in book[1]] + ['dan']
    kind = dice.choice(('build', 'build', 'source', 'unlike', 'weight', 'claim', 'claim', 'budget'))
    if kind == 'build':
        source = dice.choice(names)
        uses = [row[4] for row in book[0] if row[0] == source] + [()]
        parts = tuple(dice.choice(files) for _ in uses[0])
        if dice.random() < 0.4:
            return kind, (dice.choice(people), None, source, (), dice.choice(files))
        parts = parts + (('f0',) if dice.random() < 0.1 else ())
        return kind, (dice.choice(people), dice.choice(files), source, parts, dice.choice(files))
    if kind == 'source':
        uses = tuple(sorted(dice.sample(names, dice.choice((0, 0, 1)))))
        return kind, (dice.choice(names), 'c', dice.choice(((), ('c',))), dice.random() < 0.8, uses)
    if kind == 'unlike':
        return kind, dice.choice(names), dice.choice(names)
    if kind == 'weight':
        return kind, dice.choice(people), dice.randint(1, 4)
    return ('claim', dice.choice(files), dice.choice(names)) if kind == 'claim' else ('budget', dice.randint(0, 4))


def told_by(call):
    """What a call returns, or the kind and the fields of its error."""
    try:
        return call()
    except ValueError as error:
        return type(error), vars(error)


class WatchCase(BookCase):

    def state(self, watch):
        """All that can be asked of a watch but its tally."""
        return (watch.book_now, watch.budget_now, watch.claims_now, len(watch), watch.log(), str(watch), watch.verdicts_now())

    def assert_event(self, told, reason, call, *args, **kwargs):
        """The call raises InvalidEvent with these fields."""
        self.assert_raises(InvalidEvent, {'event': told, 'reason': reason}, call, *args, **kwargs)

    def assert_refused(self, watch, event, reason):
        """The event is refused for this reason, whoever is asked, and the watch stays as it was."""
        before = self.state(watch)
        self.assert_same(watch.barred(event), reason)
        self.assert_same(watch.barred(event=event), reason)
        self.assert_event(event, reason, watch.go, event)
        self.assert_event(event, reason, watch.go, event=event)
        self.assert_event(event, reason, watch.tried, (event,))
        self.assert_event(event, reason, watch.do_all, (event,))
        self.assert_event(event, reason, watch.do_all, (event,), keep=True)
        self.assertEqual(self.state(watch), before)


class BeginTest(WatchCase):

    def test_a_new_watch(self):
        for book in (ALONE, BOOK, SPLIT, EMPTY, LINKED):
            for watch, budget in ((Watch(book), 0), (Watch(book, budget=4), 4), (Watch(budget=10 ** 60, book=book), 10 ** 60)):
                self.assert_same((watch.book_now, watch.budget_now, watch.claims_now), (book, budget, ()))
                self.assert_same((len(watch), watch.tally(), str(watch)), (0, (0, 0), '-'))
                self.assert_same(watch.log(), (('watch', book, budget),))
                self.assert_same([watch.verdicts_now(), watch.table(), list(watch.alarms())], [(), [], []])
        self.assert_same([Watch.MOST, Watch.BUILDS], [40, 16])
        self.assertRaises(TypeError, Watch, ALONE, 1)

    def test_errors(self):
        for thing in NO_NAMES + (Book(*ALONE), ALONE[:3], list(ALONE), Watch(ALONE)):
            self.assert_paper('shape', -1, Watch, thing)
            self.assert_paper('shape', -1, Watch, thing, budget=None)
        self.assert_paper('twice', 2, Watch, ALONE[:3] + (ALONE[3] + ALONE[3][:1],), budget=-1)
        self.assert_paper('of', 0, Watch, ((), PARTIES, (), (('ann', None, 'cc', (), 'x'),)))
        for thing in NO_NUMBERS + (Book(), Standing(0, 0)):
            self.assert_not_usable('budget', Watch, ALONE, budget=thing)

    def test_what_stands_fast(self):
        watch = Watch(ALONE)
        for name in ('book_now', 'budget_now', 'claims_now'):
            with self.assertRaises(AttributeError):
                setattr(watch, name, ())


class EventsTest(WatchCase):

    def test_example(self):
        watch = Watch(ALONE, budget=1)
        told = [watch.add_claim('x', 'cc'), watch.add_build(MORE[0]), watch.add_build(MORE[1]), watch.verdicts_now()]
        self.assert_same(told, [0, 1, 2, (('x', 'cc', 'open'),)])
        told = [watch.add_build(MORE[2]), watch.verdicts_now(), watch.changes(3), watch.changes(2)]
        self.assert_same(told, [3, (('x', 'cc', 'right'),), (('x', 'cc', 'open', 'right'),), ()])
        self.assert_event(('build', MORE[0]), 'known', watch.add_build, MORE[0])
        told = [watch.suspects_now(), watch.barred(('unlike', 'cc', 'cc')), watch.table()]
        self.assert_same(told, [(), 'source', ['x        cc         0   2 right']])

    def test_possible_events(self):
        for event, method, by_name in POSSIBLE:
            ways = (method, by_name, lambda watch: watch.go(event), lambda watch: watch.go(event=event),
                    lambda watch: watch.do_all((event,)) - 1)
            for way in ways:
                watch = Watch(ALONE, budget=2)
                self.assert_same(watch.barred(event), None)
                self.assert_same(way(watch), 0)
                self.assert_same((watch.book_now, watch.budget_now, watch.claims_now), plain_after(ALONE, 2, (), event))
                self.assert_same(watch.log(), (('watch', ALONE, 2), event))
                self.assert_same((len(watch), str(watch), watch.tally()), (1, event_line(event), (1, 1)))

    def test_what_events_do(self):
        watch = Watch(ALONE)
        self.assert_same([watch.add_source(LEX), watch.book_now[0]], [0, (SOURCES[0], LEX, SOURCES[1])])
        self.assert_same([watch.add_source(('a', 'c', (), True, ('lex',))), watch.book_now[0][0][0]], [1, 'a'])
        self.assert_same([watch.add_unlike('tcc', 'lex'), watch.add_unlike('a', 'tcc'), watch.book_now[2]], [
            2, 3, (('a', 'tcc'), ('lex', 'tcc'))])
        self.assert_same([watch.add_build(MORE[0]), watch.book_now[3]], [4, ALONE[3] + MORE[:1]])
        self.assert_same([watch.set_weight('bob', 10 ** 59), watch.book_now[1]], [5, (PARTIES[0], ('bob', 10 ** 59), PARTIES[2])])
        self.assert_same([watch.add_claim('q', 'lex'), watch.add_claim('b', 'tcc'), watch.claims_now], [
            6, 7, (('b', 'tcc'), ('q', 'lex'))])
        self.assert_same([watch.set_budget(5), watch.budget_now, watch.set_budget(5), watch.budget_now], [8, 5, 9, 5])
        self.assert_same([watch.set_weight('bob', 10 ** 59), watch.set_weight('cy', 1), len(watch)], [10, 11, 12])

    def test_no_events(self):
        for event in NO_EVENTS:
            self.assert_refused(Watch(ALONE), event, 'shape')

    def test_no_events_by_their_methods(self):
        watch = Watch(ALONE)
        for thing in NO_NAMES + (Book(), SOURCES, ('x', 'cc')):
            self.assert_event(('build', thing), 'shape', watch.add_build, thing)
            self.assert_event(('source', thing), 'shape', watch.add_source, thing)
            self.assert_event(('unlike', thing, 'cc'), 'shape', watch.add_unlike, thing, 'cc')
            self.assert_event(('unlike', 'cc', thing), 'shape', watch.add_unlike, 'cc', thing)
            self.assert_event(('weight', thing, 1), 'shape', watch.set_weight, thing, 1)
            self.assert_event(('claim', thing, thing), 'shape', watch.add_claim, thing, thing)
        for thing in NO_NUMBERS + (0, Book()):
            self.assert_event(('weight', 'ann', thing), 'shape', watch.set_weight, 'ann', thing)
            if thing is not False and thing != 0:
                self.assert_event(('budget', thing), 'shape', watch.set_budget, thing)
        self.assert_same(self.state(watch), self.state(Watch(ALONE)))

    def test_reasons(self):
        book = (USED, (('ann', 1), ('cy', 1)), (('cc', 'old'),), LINKED[3][:2])
        watch = Watch(book)
        watch.add_claim('x', 'cc')
        for reason, *events in (
                ('party', ('build', ('dan', None, 'no', (), 'x')), ('build', ('bob', 'k', 'app', (), 'x')), ('weight', 'bob', 1),
                 ('weight', 'cc', 3), ('build', ('cc', None, 'cc', (), 'k'))),
                ('source', ('build', ('cy', None, 'no', (), 'x')), ('build', ('ann', 'k', 'ann', (), 'x')), ('unlike', 'cc', 'no'),
                 ('unlike', 'no', 'cc'), ('unlike', 'no', 'no'), ('unlike', 'cc', 'cc'), ('claim', 'x', 'x'), ('claim', 'x', 'no')),
                ('parts', ('build', ('cy', 'k', 'app', (), 'x')), ('build', ('cy', 'k', 'app', ('l',), 'x')),
                 ('build', ('cy', 'k', 'app', ('l', 'l', 'l'), 'x')), ('build', ('cy', 'k', 'lib', ('l',), 'x'))),
                ('known', ('build', LINKED[3][0]), ('build', LINKED[3][1]), ('source', USED[0]), ('unlike', 'cc', 'old'),
                 ('unlike', 'old', 'cc'), X, ('source', ('cc', 'd', (), False, ('cc', 'no')))),
                ('uses', ('source', ('new', 'c', (), True, ('new',))), ('source', ('new', 'c', (), True, ('cc', 'no'))),
                 ('source', ('new', 'c', (), True, ('cc', 'new'))))):
            for event in events:
                self.assert_refused(watch, event, reason)
        for event in (('build', ('cy', None, 'app', (), 'x')), ('claim', 'x', 'app'), ('claim', 'k', 'cc'), ('unlike', 'app', 'cc'),
                      ('build', ('cy', 'no', 'lib', (), 'no')), ('build', ('cy', 'x', 'app', ('y', 'z'), 'x'))):
            self.assert_same(watch.barred(event), None)

    def test_own_methods_tell_the_reasons(self):
        watch = Watch(ALONE)
        self.assert_event(('build', ALONE[3][0]), 'known', watch.add_build, ALONE[3][0])
        self.assert_event(('source', SOURCES[0]), 'known', watch.add_source, source=SOURCES[0])
        self.assert_event(('unlike', 'cc', 'cc'), 'source', watch.add_unlike, other='cc', one='cc')
        self.assert_event(('weight', 'dan', 1), 'party', watch.set_weight, 'dan', 1)
        self.assert_event(('claim', 'x', 'dd'), 'source', watch.add_claim, 'x', 'dd')
        with self.assertRaises(InvalidEvent) as caught:
            watch['dan'] = 3
        self.assert_same(vars(caught.exception), {'event': ('weight', 'dan', 3), 'reason': 'party'})
        with self.assertRaises(InvalidEvent) as caught:
            watch['ann'] = True
        self.assert_same(vars(caught.exception), {'event': ('weight', 'ann', True), 'reason': 'shape'})
        self.assert_same([len(watch), watch.tally()], [0, (7, 7)])

    def test_as_many_events_as_there_may_be(self):
        watch = Watch(ALONE)
        for n in range(40):
            self.assert_same(watch.go(('budget', n)), n)
        for event in (('budget', 1), ('build', ('dan', None, 'no', (), 'x')), ('weight', 'dan', 1), X, ('source', SOURCES[0])):
            self.assert_refused(watch, event, 'full')
        self.assert_refused(watch, ('budget', -1), 'shape')
        self.assert_same([watch.undo(), watch.go(X), watch.barred(X)], [('budget', 39), 39, 'full'])

    def test_as_many_builds_as_there_may_be(self):
        builds = tuple(('ann', 'x', 'cc', (), f'f{n}') for n in range(18))
        for many in (15, 16, 17, 18):
            watch = Watch((SOURCES, PARTIES, (), builds[:many]))
            if many == 15:
                self.assert_same(watch.add_build(builds[15]), 0)
            for build in (('bob', None, 'cc', (), 'x'), ('dan', None, 'no', (), 'x'), builds[0]):
                self.assert_refused(watch, ('build', build), 'full')
            self.assert_refused(watch, ('build', build[:4]), 'shape')
            self.assert_same(watch.barred(X), None)
        # tried and do_all count the events before, too.
        watch = Watch((SOURCES, PARTIES, (), builds[:15]))
        events = (X, ('build', builds[15]), ('build', builds[16]))
        self.assert_event(events[2], 'full', watch.tried, events)
        self.assert_event(events[2], 'full', watch.do_all, events)
        self.assert_same(watch.do_all(events[:2]), 2)
        watch = Watch(ALONE)
        watch.do_all((X,) + tuple(('budget', n) for n in range(38)))
        self.assert_event(('budget', 8), 'full', watch.tried, (('budget', 7), ('budget', 8)))
        self.assert_event(('budget', 7), 'full', watch.do_all, (('budget', 8), ('budget', 7)), keep=True)
        self.assert_same([len(watch), watch.budget_now], [40, 8])


class AsACollectionTest(WatchCase):

    def test_weights(self):
        watch = Watch(LINKED)
        self.assert_same([watch['ann'], watch['bob'], watch['cy']], [3, 10 ** 60, 1])
        watch['cy'] = 5
        self.assert_same([watch['cy'], watch.log()[1:], watch.tally()], [5, (('weight', 'cy', 5),), (1, 1)])
        watch['cy'] += 1
        self.assert_same([watch['cy'], len(watch), watch.undo(), watch['cy']], [6, 2, ('weight', 'cy', 6), 5])
        for thing in NO_NAMES + ('dan', 'cc', Book(), slice(0, 1)):
            self.assert_not_usable('party', lambda: watch[thing])
            self.assert_same(thing in watch, False)
        self.assert_not_usable('party', lambda: Watch(EMPTY)['ann'])

    def test_names(self):
        watch = Watch(ALONE)
        watch.set_weight('bob', 4)
        self.assert_same([list(watch), tuple(watch), [name for name in watch]], [list(ALL), ALL, list(ALL)])
        self.assert_same([name in watch for name in ALL + ('dan', 'x')], [True, True, True, False, False])
        self.assert_same([list(Watch(EMPTY)), len(watch), len(Watch(EMPTY))], [[], 1, 0])
        self.assert_same(dict(zip(watch, [watch[name] for name in watch])), {'ann': 1, 'bob': 4, 'cy': 1})

    def test_equal(self):
        def watch_of(book, budget, *events):
            watch = Watch(book, budget=budget)
            watch.do_all(events)
            return watch
        told = (('budget', 1), X)
        watches = [
            watch_of(ALONE, 0), watch_of(ALONE, 1), watch_of(BOOK, 0), watch_of(ALONE, 0, *told), watch_of(ALONE, 0, *told[::-1]),
            watch_of(ALONE, 0, told[0]), watch_of(ALONE, 1, *told), watch_of(ALONE, 0, *told, ('unlike', 'cc', 'tcc')),
            watch_of(ALONE, 0, *told, ('unlike', 'tcc', 'cc'))]
        for k, one in enumerate(watches):
            for m, other in enumerate(watches):
                self.assert_same([one == other, one != other], [k == m, k != m])
        # What was counted, asked and taken back does not matter.
        watch = watch_of(ALONE, 0, *told)
        watch.add_build(MORE[0])
        watch.undo()
        self.assertRaises(InvalidEvent, watch.go, X)
        self.assert_same([watch == watches[3], watch.tally() == watches[3].tally()], [True, False])

    def test_equal_to_no_other_value(self):
        watch = Watch(ALONE)
        for thing in NO_NAMES + (Book(*ALONE), ALONE, watch.log(), str(watch), Standing(0, 0)):
            self.assert_same([watch == thing, thing == watch, watch != thing, thing != watch], [False, False, True, True])


class QuestionsTest(WatchCase):

    def test_changes(self):
        watch = Watch(ALONE)
        watch.do_all((X, ('build', MORE[0]), ('claim', 't', 'tcc'), ('claim', 'q', 'cc'), ('budget', 1), ('budget', 1), ('budget', 0)))
        told = [watch.changes(k) for k in range(7)]
        self.assert_same(told[:4] + told[5:6], [()] * 5)
        self.assert_same(told[4], (('t', 'tcc', 'right', 'open'), ('x', 'cc', 'right', 'open')))
        self.assert_same(watch.changes(k=6), (('t', 'tcc', 'open', 'right'), ('x', 'cc', 'open', 'right')))
        for thing in NO_NUMBERS + (7, 8, 10 ** 60, Book()):
            self.assert_not_usable('k', watch.changes, thing)
            self.assert_not_usable('k', Watch(ALONE).changes, thing)
        self.assert_not_usable('k', Watch(ALONE).changes, 0)

    def test_alarms(self):
        watch = Watch(ALONE)
        watch.do_all((X, ('claim', 'z', 'cc'), ('claim', 't', 'cc'), ('build', MORE[0]), ('build', MORE[1]), ('build', ('cy', 'y', 'cc', (), 'z')),
                      ('weight', 'bob', 2), ('weight', 'cy', 2), ('budget', 1)))
        alarms = watch.alarms()
        self.assertIs(type(alarms), types.GeneratorType)
        told = list(alarms)
        self.assert_same(told, [
            (4, ('t', 'cc', 'open', 'wrong')), (5, ('t', 'cc', 'wrong', 'none')), (5, ('x', 'cc', 'right', 'none')),
            (5, ('z', 'cc', 'open', 'none')), (8, ('t', 'cc', 'none', 'wrong')), (8, ('x', 'cc', 'none', 'wrong'))])
        self.assert_same(watch.changes(8), (
            ('t', 'cc', 'none', 'wrong'), ('x', 'cc', 'none', 'wrong'), ('z', 'cc', 'none', 'right')))
        self.assert_same([next(watch.alarms()), list(watch.alarms())], [told[0], told])

    def test_table(self):
        watch = Watch(LINKED)
        watch.do_all((('claim', 'a', 'app'), ('claim', 'longname', 'net'), ('claim', 'k', 'old'), ('weight', 'bob', 1000), ('budget', 1)))
        told = watch.table()
        self.assert_same(told, [
            'a        app        0   4 right', 'k        old      ' + '  3   0 wrong', 'longname net        0   0 open'])
        told.clear()
        self.assert_same(len(watch.table()), 3)
        watch = Watch((((('abcdefgh', 'c', (), True, ()),)), (('ann', 98765),), (), ()))
        watch.add_claim('x', 'abcdefgh')
        watch.add_build(('ann', None, 'abcdefgh', (), 'x'))
        self.assert_same(watch.table(), ['x        abcdefgh   0 98765 right'])

    def test_orders_now(self):
        watch = Watch(EARLY)
        self.assert_same(watch.next_orders(), orders(EARLY))
        self.assert_same([Watch(SPLIT).next_orders(), Watch(EMPTY).next_orders()], [None, ()])
        watch.add_source(('loose', 'c', ('c',), False, ()))
        self.assert_same(watch.next_orders(), None)
        for seed in range(120):
            book = random_book(seed, sources=4, parties=3, builds=8)
            self.assert_same(Watch(book).next_orders(), orders(book) if plain_is_open(book) else None)

    def test_standing_now(self):
        watch = Watch(ALONE)
        self.assertEqual(watch.standing_now('x', 'cc'), Standing(0, 1))
        watch.add_build(('bob', None, 'cc', (), 'x'))
        self.assertEqual(watch.standing_now(source='cc', file='x'), Standing(0, 2))
        self.assertIs(type(watch.standing_now('other', 'tcc')), Standing)
        for thing in NO_NAMES:
            self.assert_not_usable('file', watch.standing_now, thing, thing)
            self.assert_not_usable('source', watch.standing_now, 'x', thing)
        self.assert_not_usable('source', watch.standing_now, 'x', 'dd')


class SeveralEventsTest(WatchCase):

    EVENTS = tuple(event for event, _, _ in POSSIBLE)

    def test_tried(self):
        watch = Watch(ALONE, budget=2)
        watch.add_claim('y', 'cc')
        before, counted = self.state(watch), watch.tally()
        state = (ALONE, 2, (('y', 'cc'),))
        self.assert_same([watch.tried(()), watch.tried(events=())], [state, state])
        for event in self.EVENTS:
            state = plain_after(*state, event)
        self.assert_same(watch.tried(self.EVENTS), state)
        self.assert_event(X, 'known', watch.tried, (X, ('budget', 1), X, None))
        self.assert_event(None, 'shape', watch.tried, (None, X))
        self.assertEqual((self.state(watch), watch.tally()), (before, counted))

    def test_do_all(self):
        for keep in ({}, {'keep': False}, {'keep': True}):
            watch = Watch(ALONE, budget=2)
            watch.add_claim('y', 'cc')
            self.assert_same(watch.do_all(self.EVENTS, **keep), 6)
            self.assert_same(watch.log()[2:], self.EVENTS)
            self.assert_same([watch.do_all((), **keep), watch.do_all(events=(), **keep)], [0, 0])
            self.assert_same([len(watch), watch.tally()], [7, (4, 4)])
        self.assertRaises(TypeError, watch.do_all, (), True)

    def test_do_all_up_to_an_error(self):
        for wrong, reason in ((X, 'known'), (None, 'shape'), (('weight', 'dan', 1), 'party'), (Book(), 'shape')):
            for keep in ({}, {'keep': False}, {'keep': True}):
                watch = Watch(ALONE)
                events = self.EVENTS[:5] + (wrong,) + self.EVENTS[5:]
                self.assert_event(wrong, reason, watch.do_all, events, **keep)
                self.assert_same([len(watch), watch.tally()], [5 if keep == {'keep': True} else 0, (1, 1)])
                self.assert_same(watch.log()[1:], events[:len(watch)])

    def test_no_tuples(self):
        watch = Watch(ALONE)
        for thing in (None, True, 1, 'budget', [], [X], {}, Book(), watch, nested_list()):
            self.assert_not_usable('events', watch.tried, thing)
            self.assert_not_usable('events', watch.do_all, thing)
            self.assert_not_usable('events', watch.do_all, thing, keep=True)
        self.assert_same([len(watch), watch.tally()], [0, (20, 20)])
        # Names are values of a tuple, too, but no events.
        self.assert_event('x', 'shape', watch.do_all, ('x',))

    def test_undo(self):
        watch = Watch(ALONE)
        self.assert_raises(NothingToUndo, {'steps': 0}, watch.undo)
        states = [self.state(watch)]
        for event in self.EVENTS:
            watch.go(event)
            states.append(self.state(watch))
        for event in self.EVENTS[::-1]:
            self.assertEqual(self.state(watch), states.pop())
            self.assert_same(watch.undo(), event)
        self.assertEqual(self.state(watch), states.pop())
        self.assert_raises(NothingToUndo, {'steps': 0}, watch.undo)
        self.assert_same(watch.tally(), (14, 14))
        self.assert_same([watch.do_all(self.EVENTS), watch.undo(), len(watch)], [6, ('budget', 3), 5])

    def test_tally(self):
        watch = Watch(ALONE)
        told = 0
        for event, method, _ in POSSIBLE:
            method(watch)
            told += 1
            self.assert_same(watch.tally(), (told, told))
        for call in (lambda: watch.go(None), lambda: watch.go(X), lambda: watch.add_build(1), lambda: watch.add_source(1),
                     lambda: watch.add_unlike(1, 1), lambda: watch.set_weight(1, 1), lambda: watch.add_claim(1, 1),
                     lambda: watch.set_budget(-1), lambda: watch.do_all(1), lambda: watch.do_all((1,)), lambda: watch.__setitem__(1, 1)):
            self.assertRaises(ValueError, call)
            told += 1
            self.assert_same(watch.tally(), (told, told))
        watch['ann'] = 3
        watch.undo()
        watch.do_all(())
        self.assert_same(watch.tally(), (told + 3, told + 3))

    def test_questions_count_nothing(self):
        watch = Watch(ALONE)
        watch.do_all(self.EVENTS)
        before = self.state(watch)
        for ask in (watch.verdicts_now, watch.suspects_now, watch.cleared_now, watch.next_orders, watch.table, watch.tally, watch.log,
                    lambda: list(watch.alarms()), lambda: watch.changes(1), lambda: watch.barred(X), lambda: watch.barred(1),
                    lambda: watch.tried((('budget', 1),)), lambda: watch['ann'], lambda: 'ann' in watch, lambda: list(watch),
                    lambda: len(watch), lambda: str(watch), lambda: watch == Watch(ALONE), lambda: watch.standing_now('x', 'cc'),
                    lambda: watch.book_now):
            ask()
        for ask in (lambda: watch.changes(9), lambda: watch['dan'], lambda: watch.tried(1), lambda: watch.tried((1,)),
                    lambda: watch.standing_now(1, 1)):
            self.assertRaises((NotUsable, InvalidEvent), ask)
        self.assertEqual((self.state(watch), watch.tally()), (before, (1, 1)))


class LogTest(WatchCase):

    def test_log_and_text(self):
        sources = (('cc', 'c', ('c',), True, ()), ('lex', 'c', (), True, ('cc',)), ('tcc', 'c', ('c',), True, ()))
        watch = Watch((sources, PARTIES, (), ()), budget=3)
        told = (('build', ('ann', 'x', 'lex', ('y',), 'z')), ('build', MORE[0]), ('source', ('new', 'c', (), False, ('cc', 'lex'))),
                ('unlike', 'tcc', 'cc'), ('weight', 'cy', 10 ** 59), X, ('budget', 0))
        watch.do_all(told)
        self.assert_same(watch.log(), (('watch', (sources, PARTIES, (), ()), 3), *told))
        self.assert_same(str(watch), ' / '.join((
            'build ann x lex y z', 'build bob - tcc - t', 'source new c loose - cc,lex', 'unlike tcc cc',
            'weight cy 1' + '0' * 59, 'claim x cc', 'budget 0')))
        watch.undo()
        self.assert_same([watch.log()[-1], str(watch)[-12:]], [X, '/ claim x cc'])

    def test_lines(self):
        events = tuple(event for event, _ in EVENTS if Watch(ALONE).barred(event) is None)
        watch = Watch(ALONE)
        for event in events:
            if watch.barred(event) is None:
                watch.go(event)
        self.assert_same(str(watch), ' / '.join(event_line(event) for event in watch.log()[1:]))
        self.assertGreater(len(watch), 5)


class AnyEventsTest(WatchCase):

    def check(self, watch, state):
        """All questions are answered as the functions answer them for the book."""
        book, budget, claims = state
        self.assert_same((watch.book_now, watch.budget_now, watch.claims_now), state)
        self.assert_same(watch.verdicts_now(), tuple((*claim, verdict(book, *claim, budget)) for claim in claims))
        self.assert_same([watch.suspects_now(), watch.cleared_now()], [suspects(book, budget), cleared(book, budget)])
        self.assert_same(watch.next_orders(), orders(book) if plain_is_open(book) else None)
        lines = []
        for file, source in claims:
            standing = standing_of(book, file, source)
            self.assertEqual(watch.standing_now(file, source), standing)
            numbers = str(standing.right).rjust(3) + ' ' + str(standing.wrong).rjust(3)
            lines.append(' '.join((file.ljust(8), source.ljust(8), numbers, standing(budget))))
        self.assert_same(watch.table(), lines)

    def test_any_events(self):
        reasons, changed = set(), 0
        for seed in range(50):
            dice = random.Random(seed)
            book = random_book(seed, sources=4, parties=3, builds=10, files=3)
            watch, states, told = Watch(book, budget=1), [(book, 1, ())], []
            for _ in range(60):
                event = random_event(dice, states[-1][0])
                reason = plain_reason(states[-1][0], states[-1][2], len(told), event)
                reasons.add(reason)
                self.assert_same(watch.barred(event), reason)
                if reason is None:
                    self.assert_same(watch.go(event), len(told))
                    states.append(plain_after(*states[-1], event))
                    told.append(event)
                else:
                    self.assert_event(event, reason, watch.go, event)
                if told and dice.random() < 0.1:
                    self.assert_same(watch.undo(), told.pop())
                    states.pop()
            self.check(watch, states[-1])
            self.assert_same(watch.log(), (('watch', book, 1), *told))
            changed += self.check_changes(watch, states)
            other = Watch(book, budget=1)
            self.assert_same([other.tried(tuple(told)), other.do_all(tuple(told))], [states[-1], len(told)])
            self.assert_same([watch == other, other.log() == watch.log()], [True, True])
        self.assertEqual(reasons, {None, 'full', 'party', 'source', 'parts', 'known', 'uses'})
        self.assertGreater(changed, 20)

    def check_changes(self, watch, states):
        """The changes and the alarms are those between the states; how many there are."""
        changes = []
        for k in range(len(states) - 1):
            rows = []
            for claim in states[k][2]:
                words = [verdict(book, *claim, budget) for book, budget, _ in states[k:k + 2]]
                if words[0] != words[1]:
                    rows.append((*claim, *words))
            self.assert_same(watch.changes(k), tuple(rows))
            changes.extend((k, row) for row in rows)
        self.assert_same(list(watch.alarms()), [(k, row) for k, row in changes if row[3] in ('wrong', 'none')])
        return len(changes)

    def test_events_that_lower_no_number(self):
        for seed in range(40):
            dice = random.Random(seed)
            book = random_book(seed, sources=3, parties=3, builds=6, files=3)
            watch = Watch(book, budget=seed % 3)
            claims = [(file, source) for file in ('f0', 'f1') for source in source_names(book)]
            watch.do_all(tuple(('claim', *claim) for claim in claims))
            before = self.numbers(watch, claims)
            for _ in range(30):
                event = random_event(dice, watch.book_now)
                grows = event[0] in ('build', 'source', 'unlike') or event[0] == 'weight' and event[1] in watch and event[2] >= watch[event[1]]
                if grows and watch.barred(event) is None:
                    watch.go(event)
            for old, new in zip(before, self.numbers(watch, claims)):
                self.assertTrue(all(one <= two for one, two in zip(old, new)))
            for claim in claims:
                rows = [row for k in range(len(claims), len(watch)) for row in watch.changes(k) if row[:2] == claim]
                self.assertLessEqual(len(rows), 2)
                self.assertTrue(all(row[2] == 'open' or row[3] == 'none' for row in rows), rows)

    def numbers(self, watch, claims):
        """The base and the two numbers of each claim."""
        book = watch.book_now
        return [(base_of(book), right_of(book, *claim), wrong_of(book, *claim)) for claim in claims]


def nested_list():
    """A list of lists, thirty deep."""
    thing = []
    for _ in range(29):
        thing = [thing]
    return thing
