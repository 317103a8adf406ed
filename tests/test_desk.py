"""Promises [75] and [76]: each row of a desk, possible and not, and its tally."""

import random

from rebuiltby.bookchanges import with_weight
from rebuiltby.bookclasses import Book
from rebuiltby.booktexts import book_text
from rebuiltby.desk import Desk
from rebuiltby.errors import InvalidEvent, InvalidPaper, InvalidRow, NothingToUndo, NotUsable
from rebuiltby.eventtexts import event_line, log_lines
from rebuiltby.watches import Watch
from tests.books import ALONE, BOOK, EARLY, EMPTY, LINKED, MORE, NO_NAMES, SOURCES, SPLIT, BookCase, random_book
from tests.test_eventtexts import EVENTS
from tests.test_watches import POSSIBLE, random_event

SINGLE = ('undo', 'events', 'log', 'budget', 'suspects', 'cleared', 'claims', 'verdicts', 'alarms', 'orders', 'table', 'book')
BEGIN = '\n'.join(log_lines((('watch', ALONE, 3),)))
PARTED = (
    ('claim', 'x', 'cc'), ('claim', 'z', 'cc'), ('build', MORE[0]), ('build', MORE[1]), ('build', ('cy', 'y', 'cc', (), 'z')),
    ('weight', 'bob', 2), ('weight', 'cy', 2), ('budget', 1))


def words_of(rows):
    """Rows of words with @ between, and spaces between rows."""
    return ' '.join('@'.join(str(word) for word in row) for row in rows) or '-'


def answers_of(watch):
    """What a desk with this watch is to answer."""
    told = {
        'events': str(len(watch)), 'log': str(watch), 'budget': str(watch.budget_now),
        'suspects': ' '.join(watch.suspects_now()) or '-', 'cleared': ' '.join(watch.cleared_now()) or '-',
        'claims': words_of(watch.claims_now), 'verdicts': words_of(watch.verdicts_now()),
        'alarms': words_of((k, *row) for k, row in watch.alarms()), 'table': ' / '.join(watch.table()) or '-',
        'book': ' / '.join(book_text(watch.book_now).split('\n')) or '-',
        'orders': words_of((*order[:3], ','.join(order[3]) or '-') for order in watch.next_orders() or ()),
    }
    for name in watch:
        told['party ' + name] = str(watch[name])
    for k in range(len(watch)):
        told[f'changes {k}'] = words_of(watch.changes(k))
    for file, source in [*watch.claims_now, *[('other', row[0]) for row in watch.book_now[0]]]:
        told[f'standing {file} {source}'] = str(watch.standing_now(file, source))
    return told


class DeskCase(BookCase):

    def assert_row(self, desk, row):
        """The row is not possible; what the desk has stays."""
        before = answers_after(desk)
        self.assert_raises(InvalidRow, {'row': row}, desk.say, row)
        self.assert_same(answers_after(desk), before)

    def assert_answers(self, desk, watch):
        """The desk answers as the watch does."""
        for row, answer in answers_of(watch).items():
            self.assert_same((row, desk.say(row)), (row, answer))


def answers_after(desk):
    """What the desk tells of its watch."""
    return [desk.say(row) for row in SINGLE[1:]]


class DeskTest(DeskCase):

    def test_example(self):
        desk = Desk(ALONE)
        told = [desk.say('claim x cc'), desk.say('budget 1'), desk.say('verdicts'), desk.say('changes 1')]
        self.assert_same(told, ['0', '1', 'x@cc@open', 'x@cc@right@open'])
        self.assert_same([desk.say('bars unlike cc dd'), desk.say(row='events')], ['source', '2'])

    def test_a_new_desk(self):
        for book in (ALONE, BOOK, SPLIT, EMPTY, LINKED):
            self.assert_answers(Desk(book), Watch(book))
            self.assert_answers(Desk(book=book), Watch(book))
            self.assert_same(Desk(book).tally(), (0, 0))
        for thing in NO_NAMES + (Book(*ALONE), ALONE[:3], Watch(ALONE)):
            self.assert_paper('shape', -1, Desk, thing)
        self.assert_paper('twice', 2, Desk, ALONE[:3] + (ALONE[3] + ALONE[3][:1],))

    def test_answers(self):
        desk = Desk(ALONE)
        told = [desk.say(row) for row in SINGLE[1:]]
        self.assert_same(told, [
            '0', '-', '0', '-', 'ann bob cy', '-', '-', '-', 'ann@x@cc@- ann@x@tcc@- bob@x@cc@- bob@x@tcc@- cy@x@tcc@-', '-',
            'source cc c steady c - / source tcc c steady c - / party ann 1 / party bob 1 / party cy 1 / '
            'build ann - cc - x / build cy x cc - x'])
        desk = Desk(EMPTY)
        self.assert_same([desk.say(row) for row in SINGLE[1:]], ['0', '-', '0'] + ['-'] * 8)
        desk = Desk(with_weight(LINKED, 'bob', 1))
        for row in ('claim a app', 'claim k cc', 'budget 12'):
            desk.say(row)
        self.assert_same([desk.say('claims'), desk.say('table')], [
            'a@app k@cc', 'a        app        0   2 open / k        cc         0   3 open'])
        # A loose source compiles something here, so there are no orders.
        self.assert_same([desk.say('orders'), desk.say('budget')], ['-', '12'])
        self.assert_same([desk.say('party ann'), desk.say('standing a app'), desk.say('log')], [
            '3', 'right 0, wrong 2', 'claim a app / claim k cc / budget 12'])

    def test_orders_with_parts(self):
        sources = (('app', 'c', (), False, ('lib', 'net')), ('cc', 'd', ('c',), True, ()), ('lib', 'd', (), True, ()), ('net', 'd', (), True, ()))
        builds = tuple(('ann', None, row[0], (), row[0][0] * 2) for row in sources[1:])
        self.assert_same(Desk((sources, (('ann', 1),), (), builds)).say('orders'), 'ann@cc@app@ll,nn')

    def test_alarms_and_suspects(self):
        desk = Desk(ALONE)
        for event in PARTED:
            desk.say(event_line(event))
        self.assert_same(desk.say('alarms'), '4@x@cc@right@none 4@z@cc@open@none 7@x@cc@none@wrong')
        self.assert_same([desk.say('changes 7'), desk.say('changes 5')], ['x@cc@none@wrong z@cc@none@right', '-'])
        self.assert_same([desk.say('suspects'), desk.say('cleared'), desk.say('orders')], ['ann', 'bob cy', '-'])
        self.assert_same(desk.say('verdicts'), 'x@cc@wrong z@cc@right')

    def test_events(self):
        for event, _, _ in POSSIBLE:
            desk, watch = Desk(ALONE), Watch(ALONE)
            self.assert_same([desk.say('bars ' + event_line(event)), desk.say('events')], ['-', '0'])
            self.assert_same(desk.say(event_line(event)), str(watch.go(event)))
            self.assert_answers(desk, watch)
            self.assert_same([desk.say('undo'), desk.say('log')], [event_line(event), '-'])

    def test_events_that_are_refused(self):
        desk = Desk(ALONE)
        for line, event, reason in (
                ('build dan - cc - x', ('build', ('dan', None, 'cc', (), 'x')), 'party'),
                ('weight dan 1', ('weight', 'dan', 1), 'party'), ('claim x dd', ('claim', 'x', 'dd'), 'source'),
                ('unlike cc cc', ('unlike', 'cc', 'cc'), 'source'), ('build ann x cc x x', ('build', ('ann', 'x', 'cc', ('x',), 'x')), 'parts'),
                ('build ann - cc - x', ('build', ALONE[3][0]), 'known'), ('source tcc c loose - -', ('source', ('tcc', 'c', (), False, ())), 'known'),
                ('source a c loose - a', ('source', ('a', 'c', (), False, ('a',))), 'uses')):
            self.assert_same(desk.say('bars ' + line), reason)
            self.assert_raises(InvalidEvent, {'event': event, 'reason': reason}, desk.say, line)
            self.assert_same(desk.say('events'), '0')
        for n in range(40):
            self.assert_same(desk.say(f'budget {n}'), str(n))
        self.assert_raises(InvalidEvent, {'event': ('budget', 7), 'reason': 'full'}, desk.say, 'budget 7')
        self.assert_same([desk.say('bars budget 7'), desk.say('undo'), desk.say('bars budget 7')], ['full', 'budget 39', '-'])

    def test_errors_of_the_watch(self):
        desk = Desk(ALONE)
        self.assert_raises(NothingToUndo, {'steps': 0}, desk.say, 'undo')
        self.assert_not_usable('party', desk.say, 'party dan')
        self.assert_not_usable('party', desk.say, 'party x')
        self.assert_not_usable('source', desk.say, 'standing x dd')
        self.assert_same(desk.say('standing dd cc'), 'right 0, wrong 0')
        for k in ('0', '1', '9' * 60):
            self.assert_not_usable('k', desk.say, 'changes ' + k)
        desk.say('claim x cc')
        self.assert_same(desk.say('changes 0'), '-')
        self.assert_not_usable('k', desk.say, 'changes 1')
        self.assert_same(desk.tally(), (11, 11))


class WatchRowsTest(DeskCase):

    def test_a_new_watch(self):
        desk = Desk(BOOK)
        desk.say('claim x cc')
        for log in ((('watch', ALONE, 3),), (('watch', EMPTY, 0),), (('watch', SPLIT, 10 ** 59),)):
            self.assert_same(desk.say('\n'.join(log_lines(log))), 'ok')
            self.assert_answers(desk, Watch(log[0][1], budget=log[0][2]))
            desk.say('budget 2')

    def test_rows_that_are_no_watch(self):
        desk = Desk(EARLY)
        desk.say('claim x cc')
        lines = BEGIN.split('\n')
        rows = [
            BEGIN + '\n', '\n' + BEGIN, BEGIN + '\nbudget 1', BEGIN + '\nclaim x cc', BEGIN + '\nbuild bob - tcc - t', BEGIN + ' ',
            ' ' + BEGIN, 'watch', 'watch 3', 'watch 3 ', 'watch 0 0 ', 'watch 0 0\n', 'watch 0 0\n\n', 'watch 0 0 0', 'watch 0 0 x',
            'watch 00 0', 'watch 0 00', 'watch -1 0', 'watch 0 -1', 'watch 0 1', 'watch 0 1\n', 'watch  0 0', 'watch\n0 0', 'Watch 0 0',
            'watch 0 1\nparty ann 0', 'watch 0 1\nparty ann 1 ', 'watch 0 2\nparty ann 1', 'watch 0 2\nparty ann 1\n',
            'watch 0 0\nparty ann 1', 'watch 0 2\nparty ann 1\nsource cc c steady c -', 'watch 0 1 party ann 1', 'watch 0 1\nbudget 1',
            'watch ' + '1' * 61 + ' 0', 'watch 0 ' + '9' * 60, BEGIN.replace('\n', ' '), BEGIN.replace('\n', ' / ')]
        rows += ['\n'.join(lines[:at] + lines[at + 1:]) for at in range(len(lines))]
        rows += ['\n'.join(lines[:at] + [''] + lines[at:]) for at in range(len(lines) + 1)]
        for row in rows:
            self.assert_row(desk, row)

    def test_watches_with_errors(self):
        desk = Desk(EARLY)
        desk.say('claim x cc')
        before = answers_after(desk)
        for row, word, at in (
                ('watch 0 2\nparty bob 1\nparty ann 1', 'party', 1), ('watch 1 2\nparty ann 1\nparty ann 1', 'party', 1),
                ('watch 0 1\nsource cc c steady c x', 'uses', 0), ('watch 0 1\nsource cc c steady c cc', 'ring', 0),
                ('watch 0 2\nsource tcc c steady c -\nsource cc c steady c -', 'source', 1), ('watch 2 1\nunlike a b', 'unlike', 0),
                ('watch 0 1\nbuild ann - cc - x', 'by', 0), ('watch 0 2\nparty ann 1\nbuild ann - cc - x', 'of', 0),
                (BEGIN.replace('3 7', '3 8') + '\nbuild ann - cc - x', 'twice', 2)):
            self.assert_paper(word, at, desk.say, row)
            self.assert_same(answers_after(desk), before)


class RowsTest(DeskCase):

    def desk(self):
        """A desk behind some events."""
        desk = Desk(ALONE)
        desk.say('claim x cc')
        desk.say('budget 1')
        return desk

    def test_no_rows(self):
        desk = self.desk()
        rows = [
            '', ' ', '\n', '-', 'undo undo', 'event', 'Events', 'say', 'tally', 'bars', 'bars ', 'bars bars budget 1', 'bars undo',
            'bars events', 'bars budget', 'bars  budget 1', 'bars watch 0 0', 'bars budget 1 ', 'bars budget 01', 'bars claim x',
            'bars claim x cc cc', 'bars\nbudget 1', 'bars claim x C', 'budget ', 'budget -1', 'budget 1 1', 'budget 01', 'budget x',
            'budget  1', 'budget 1\n', 'budget ' + '1' * 61, 'party', 'party ', 'party ann ', 'party ann 1', 'party Ann', 'party 1',
            'party ann\n', 'party -', 'party abcdefghi', 'standing', 'standing x', 'standing x ', 'standing x cc cc', 'standing X cc',
            'standing x C', 'standing  x cc', 'standing x,y cc', 'changes', 'changes ', 'changes x', 'changes 00', 'changes 01',
            'changes -1', 'changes 1 1', 'changes ' + '1' * 61, 'changes 1\n', 'changes  1', 'claims x', 'verdicts x cc', 'orders 1',
            'claim x', 'claim x cc cc', 'claim x cc\n', 'claim x cc ', ' claim x cc', 'unlike cc', 'weight ann', 'weight ann 0',
            'weight ann 01', 'weight Ann 1', 'source cc c steady c', 'build ann - cc x x', 'build ann - cc - x x', 'alarms 1',
            'budget 1\nbudget 2', 'budget\n1', 'undo\n', 'table ', 'a' * 4000, ' ' * 4000]
        for row in rows:
            self.assert_row(desk, row)

    def test_words_around(self):
        desk = self.desk()
        for row in SINGLE + ('party ann', 'standing x cc', 'changes 1'):
            for wrong in (row + ' ', ' ' + row, row + '\n', '\n' + row, row + ' x', row.upper(), row + ' /', 's' + row):
                self.assert_row(desk, wrong)
        for event, line in EVENTS:
            for wrong in (line + ' ', ' ' + line, line + '\n', line + ' x', line.upper(), 'bars ' + line + ' ', 'bars  ' + line):
                self.assert_row(desk, wrong)

    def test_the_row_is_looked_at_first(self):
        # Behind these words nothing is looked at: neither is there an event to take back.
        desk = Desk(EMPTY)
        for row in ('undo x', 'party dan x', 'changes 9 9', 'standing q q q', 'claim q q q', 'watch 0 1\nsource a b steady - q\n'):
            self.assert_row(desk, row)

    def test_tally(self):
        desk = Desk(ALONE)
        rows = ('events', 'claim x cc', 'claim x cc', 'undo', 'undo', 'no row', 'watch 0 1\nunlike a b', BEGIN, 'party dan', '')
        for n, row in enumerate(rows):
            try:
                desk.say(row)
            except (InvalidEvent, InvalidPaper, InvalidRow, NothingToUndo, NotUsable):
                pass
            self.assert_same([desk.tally(), desk.tally()], [(n + 1, n + 1)] * 2)

    def test_any_rows(self):
        for seed in range(25):
            dice = random.Random(seed)
            book = random_book(seed, sources=3, parties=3, builds=6, files=3)
            desk, watch = Desk(book), Watch(book)
            for _ in range(30):
                event = random_event(dice, watch.book_now)
                reason = watch.barred(event)
                self.assert_same(desk.say('bars ' + event_line(event)), reason or '-')
                if reason is None:
                    self.assert_same(desk.say(event_line(event)), str(watch.go(event)))
                else:
                    self.assert_raises(InvalidEvent, {'event': event, 'reason': reason}, desk.say, event_line(event))
                if len(watch) and dice.random() < 0.1:
                    self.assert_same(desk.say('undo'), event_line(watch.undo()))
            self.assert_answers(desk, watch)


class SourcesTest(BookCase):

    def test_languages_are_names_too(self):
        desk = Desk((SOURCES, (), (), ()))
        self.assert_same(desk.say('source lex lisp loose c,lisp cc,tcc'), '0')
        self.assert_same(desk.say('book').split(' / ')[1], 'source lex lisp loose c,lisp cc,tcc')
