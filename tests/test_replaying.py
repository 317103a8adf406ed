"""Promise [72], as far as it speaks of is_log and replayed, with [62] to [64]."""

import random

from rebuiltby.bookchanges import with_build
from rebuiltby.bookclasses import Book
from rebuiltby.errors import InvalidEvent
from rebuiltby.eventreadings import read_log
from rebuiltby.eventtexts import log_lines
from rebuiltby.knowing import Knowledge
from rebuiltby.replaying import is_log, replayed
from rebuiltby.standings import Standing
from rebuiltby.watches import Watch
from tests.books import ALONE, BOOK, EMPTY, LINKED, MORE, NO_NAMES, NO_NUMBERS, PARTIES, SOURCES, SPLIT, BookCase
from tests.books import mutated, random_book, source_names
from tests.test_eventtexts import EVENTS
from tests.test_watches import NO_EVENTS, plain_after, plain_reason, random_event, told_by

FIRST = ('watch', ALONE, 1)
LOG = (FIRST, ('claim', 'x', 'cc'), ('build', MORE[0]), ('build', MORE[1]), ('build', MORE[2]))
OBJECTS = (Book(), Book(*BOOK), Knowledge(BOOK), Standing(0, 1), Watch(ALONE))
NO_BOOKS = (
    BOOK[:3], BOOK + ((),), list(BOOK), (SOURCES, PARTIES, (), list(BOOK[3])), BOOK[:3] + (BOOK[3] + BOOK[3][:1],),
    (SOURCES[::-1],) + BOOK[1:], (SOURCES, PARTIES[:2]) + BOOK[2:], (SOURCES, PARTIES, (('tcc', 'cc'),), ()))


def written(seed):
    """A watch of some book that has followed some events, and the state in which it is."""
    dice = random.Random(seed)
    book = random_book(seed, sources=4, parties=3, builds=8, files=3)
    watch, state = Watch(book, budget=seed % 4), (book, seed % 4, ())
    for _ in range(dice.randint(0, 30)):
        event = random_event(dice, state[0])
        if watch.barred(event) is None:
            watch.go(event)
            state = plain_after(*state, event)
    return watch, state


def plain_replay(log):
    """The state after the events of a log by [63], or the fields of the first error."""
    state = (log[0][1], log[0][2], ())
    for many, event in enumerate(log[1:]):
        reason = plain_reason(state[0], state[2], many, event)
        if reason is not None:
            return {'event': event, 'reason': reason}
        state = plain_after(*state, event)
    return state


class LogTest(BookCase):

    def test_logs(self):
        for log in (LOG, LOG[:1], (('watch', EMPTY, 0),), (('watch', SPLIT, 10 ** 60),), (('watch', LINKED, 5),) + LOG[1:]):
            self.assert_same([is_log(log), is_log(thing=log)], [True, True])
        # Events by form, possible or not, and more of them than a watch follows.
        self.assert_same(is_log((FIRST,) + tuple(event for event, _ in EVENTS)), True)
        self.assert_same(is_log((FIRST,) + (('claim', 'x', 'cc'),) * 100), True)

    def test_no_logs(self):
        for thing in NO_NAMES + OBJECTS + ('watch', list(LOG), [FIRST], ALONE, LOG[1:], (LOG,), ((),) + LOG):
            self.assert_same(is_log(thing), False)
            self.assert_same(is_log((thing,)), False)
            self.assert_same(is_log((thing,) + LOG[1:]), False)
        self.assert_same(is_log(FIRST), False)

    def test_beginnings(self):
        for thing in NO_NAMES + OBJECTS + ('Watch', 'watch ', ('watch',)):
            self.assert_same(is_log(((thing, ALONE, 1),)), False)
            self.assert_same(is_log((('watch', thing, 1),)), False)
        for thing in NO_BOOKS:
            self.assert_same(is_log((('watch', thing, 1),) + LOG[1:]), False)
        for thing in NO_NUMBERS + OBJECTS:
            self.assert_same(is_log((('watch', ALONE, thing),)), False)
        for thing in (FIRST[:2], FIRST + (1,), list(FIRST), ('watch', 1, ALONE)):
            self.assert_same(is_log((thing,) + LOG[1:]), False)

    def test_events(self):
        for thing in NO_EVENTS + OBJECTS + (FIRST,):
            self.assert_same(is_log((FIRST, thing)), False)
            self.assert_same(is_log(LOG + (thing,)), False)
            self.assert_same(is_log(LOG[:2] + (thing,) + LOG[2:]), False)

    def test_what_watches_write(self):
        for seed in range(60):
            watch, _ = written(seed)
            self.assert_same(is_log(watch.log()), True)
            self.assert_same(is_log(read_log(log_lines(watch.log()))), True)


class ReplayedTest(BookCase):

    def assert_alike(self, one, other):
        """The watches are equal, and tell the same of everything that can be asked."""
        self.assertTrue(one == other and other == one)
        told = [
            (watch.book_now, watch.budget_now, watch.claims_now, len(watch), watch.log(), str(watch), watch.verdicts_now(),
             watch.table(), watch.suspects_now(), watch.cleared_now(), watch.next_orders(), list(watch.alarms()), list(watch),
             [watch.changes(k) for k in range(len(watch))], [watch[name] for name in watch])
            for watch in (one, other)]
        self.assert_same(told[0], told[1])

    def test_examples(self):
        for watch in (replayed(LOG), replayed(log=LOG)):
            self.assertIs(type(watch), Watch)
            self.assert_same([watch.log(), watch.tally(), watch.verdicts_now()], [LOG, (0, 0), (('x', 'cc', 'right'),)])
            self.assert_same([watch.changes(3), len(watch)], [(('x', 'cc', 'open', 'right'),), 4])
        watch = replayed((('watch', EMPTY, 0),))
        self.assert_same([watch.log(), watch.tally(), len(watch), str(watch)], [(('watch', EMPTY, 0),), (0, 0), 0, '-'])

    def test_watches_that_wrote_the_log(self):
        for seed in range(60):
            watch, state = written(seed)
            other = replayed(watch.log())
            self.assert_same(other.tally(), (0, 0))
            self.assert_same((other.book_now, other.budget_now, other.claims_now), state)
            self.assert_alike(watch, other)
            # From then on, too.
            dice = random.Random(seed)
            for _ in range(12):
                event = random_event(dice, watch.book_now)
                self.assertEqual(told_by(lambda: watch.go(event)), told_by(lambda: other.go(event)))
                if dice.random() < 0.2:
                    self.assertEqual(told_by(watch.undo), told_by(other.undo))
            self.assert_alike(watch, other)
            self.assertGreaterEqual(other.tally(), (12, 12))

    def test_each_one_is_new(self):
        one, other = replayed(LOG), replayed(LOG)
        self.assertIsNot(one, other)
        one.undo()
        self.assert_same([one.tally(), other.tally(), len(one), len(other)], [(1, 1), (0, 0), 3, 4])
        self.assert_alike(other, replayed(other.log()))

    def test_watches_that_took_back(self):
        watch = Watch(ALONE, budget=1)
        watch.do_all(LOG[1:] + (('budget', 7), ('unlike', 'tcc', 'cc')))
        watch.undo()
        watch.undo()
        self.assert_same(watch.tally(), (3, 3))
        self.assert_alike(watch, replayed(LOG))

    def test_logs_that_nobody_wrote(self):
        for log, event, reason in (
                (LOG + LOG[2:3], LOG[2], 'known'), (LOG[:1] + (('weight', 'dan', 1),) + LOG[1:], ('weight', 'dan', 1), 'party'),
                (LOG + (('claim', 'x', 'dd'), ('weight', 'dan', 1)), ('claim', 'x', 'dd'), 'source'),
                (LOG[:2] + (('unlike', 'cc', 'cc'),), ('unlike', 'cc', 'cc'), 'source'),
                (LOG + (('source', ('new', 'c', (), True, ('old',))),), ('source', ('new', 'c', (), True, ('old',))), 'uses'),
                (LOG + (('build', ('ann', 'x', 'cc', ('x',), 'y')),), ('build', ('ann', 'x', 'cc', ('x',), 'y')), 'parts')):
            self.assert_same(is_log(log), True)
            self.assert_raises(InvalidEvent, {'event': event, 'reason': reason}, replayed, log)
        # More events than a watch follows, and more builds than its book may have.
        log = LOG[:1] + tuple(('budget', k) for k in range(41))
        self.assert_raises(InvalidEvent, {'event': ('budget', 40), 'reason': 'full'}, replayed, log)
        self.assert_same(replayed(log[:-1]).budget_now, 39)
        book = ALONE
        for k in range(14):
            book = with_build(book, ('ann', None, 'cc', (), f'g{k}'))
        self.assert_raises(InvalidEvent, {'event': LOG[2], 'reason': 'full'}, replayed, (('watch', book, 0),) + LOG[1:])

    def test_changed_logs(self):
        told = {}
        for seed in range(120):
            dice = random.Random(seed)
            watch, _ = written(seed)
            log = watch.log()
            names = source_names(watch.book_now) + ('p0', 'f0', 'f1', 'new', 'claim', 'build', 'budget')
            for _ in range(12):
                thing = mutated(dice, log, names)
                if dice.random() < 0.5 and len(log) > 1:
                    k = dice.randrange(1, len(log))
                    thing = log[:k] + (random_event(dice, watch.book_now),) * dice.randrange(2) + log[k + dice.randrange(2):]
                if is_log(thing):
                    found = plain_replay(thing)
                    if type(found) is dict:
                        self.assert_raises(InvalidEvent, found, replayed, thing)
                        told[found['reason']] = True
                    else:
                        other = replayed(thing)
                        self.assert_same([other.log(), (other.book_now, other.budget_now, other.claims_now)], [thing, found])
                        self.assertEqual(other == watch, thing == log)
                        told[other == watch] = True
                else:
                    told['no log'] = True
        self.assertLessEqual({'no log', True, False, 'known', 'source', 'parts', 'party'}, set(told))

    def test_logs_that_were_read(self):
        for seed in range(40):
            watch, _ = written(seed)
            self.assert_alike(watch, replayed(read_log(log_lines(watch.log()))))
