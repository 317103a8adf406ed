"""Promises [74] and [21]: what the lines of events and logs are read as, and which word is told."""

import random

from rebuiltby.bookchanges import with_weight
from rebuiltby.eventreadings import read_event, read_log
from rebuiltby.eventtexts import event_line, log_lines
from rebuiltby.errors import InvalidText
from tests.books import ALONE, BOOK, EMPTY, LINKED, BookCase, random_book
from tests.test_bookreadings import NO_LIST_WORDS, NO_NAME_WORDS
from tests.test_eventtexts import EVENTS

NO_NUMBER_WORDS = (
    '', '-', '-1', '+1', '00', '01', '1.0', '1_0', 'a', ' ', '1\n', '\n1', '1' * 61, '0' * 60, '1a', '\t1', '0x1', '()')
LINES = {
    'build': 'build ann x cc p,q y', 'source': 'source cc c steady a,c x,y', 'unlike': 'unlike cc tcc',
    'weight': 'weight ann 12', 'claim': 'claim x cc', 'budget': 'budget 7'}
LOG = log_lines((('watch', ALONE, 3), *[event for event, _ in EVENTS]))


class EventTest(BookCase):

    def assert_fields(self, kind, field, words):
        """None of the words can stand in this field of the line of this kind."""
        line = LINES[kind].split(' ')
        for word in words:
            self.assert_text(0, field, read_event, ' '.join(line[:field] + [word] + line[field + 1:]))
            # The first such word is told, ahead of a word too many or missing.
            self.assert_text(0, field, read_event, ' '.join(line[:field] + [word] + line[field + 1:] + ['x']))
            self.assert_text(0, field, read_event, ' '.join(line[:field] + [word]))

    def test_example(self):
        self.assert_text(0, 6, read_event, 'build cy t cc - y x')

    def test_there_and_back(self):
        for event, line in EVENTS:
            self.assert_same(read_event(line), event)
            self.assert_same(event_line(read_event(text=line)), line)

    def test_first_words(self):
        words = ('', '-', 'party', 'watch', 'Build', 'BUDGET', 'builds', 'claim\n', '\nclaim', 'undo', 'shape', 'budgets')
        for kind in LINES:
            for word in words:
                self.assert_text(0, 0, read_event, ' '.join([word] + LINES[kind].split(' ')[1:]))
        for text in ('', ' ', '\n', 'event', 'party ann 1', 'watch 0 0', ' budget 1', 'a' * 4000, ' ' * 4000, '\n' * 4000):
            self.assert_text(0, 0, read_event, text)

    def test_names(self):
        for kind, fields in (('build', (1, 3, 5)), ('source', (1, 2)), ('unlike', (1, 2)), ('weight', (1,)), ('claim', (1, 2))):
            for field in fields:
                self.assert_fields(kind, field, NO_NAME_WORDS)

    def test_other_words(self):
        self.assert_fields('source', 3, ('', '-', 'Steady', 'True', 'loose\n', 'c'))
        self.assert_fields('source', 4, NO_LIST_WORDS + ('b,a', 'a,a'))
        self.assert_fields('source', 5, NO_LIST_WORDS + ('b,a', 'a,a'))
        self.assert_fields('build', 2, [word for word in NO_NAME_WORDS if word != '-'])
        self.assert_fields('build', 4, NO_LIST_WORDS)
        self.assert_text(0, 4, read_event, 'build ann - cc x y')

    def test_numbers(self):
        self.assert_fields('budget', 1, NO_NUMBER_WORDS)
        self.assert_fields('weight', 2, NO_NUMBER_WORDS + ('0',))
        self.assert_same([read_event('budget 0'), read_event('budget 10')], [('budget', 0), ('budget', 10)])
        self.assert_same(read_event('budget ' + '1' * 60), ('budget', int('1' * 60)))
        self.assert_same(read_event('weight ann ' + '9' * 60), ('weight', 'ann', 10 ** 60 - 1))

    def test_words_too_many_or_too_few(self):
        for kind in LINES:
            line = LINES[kind].split(' ')
            for many in range(1, len(line)):
                self.assert_text(0, many, read_event, ' '.join(line[:many]))
                self.assert_text(0, many, read_event, ' '.join(line[:many]) + ' ')
            for more in (' ', ' x', '  ', ' 1 2', ' \n', ' ' + LINES[kind]):
                self.assert_text(0, len(line), read_event, LINES[kind] + more)
            self.assert_text(0, len(line) - 1, read_event, LINES[kind] + '\n')
            self.assert_text(0, 0, read_event, ' ' + LINES[kind])
            self.assert_text(0, 0, read_event, '\n' + LINES[kind])
            self.assert_text(0, 1, read_event, LINES[kind].replace(' ', '  ', 1))

    def test_nothing_else_is_checked(self):
        self.assert_same(read_event('unlike a a'), ('unlike', 'a', 'a'))
        self.assert_same(read_event('unlike b a'), ('unlike', 'b', 'a'))
        self.assert_same(read_event('source a c steady - a'), ('source', ('a', 'c', (), True, ('a',))))


class LogTest(BookCase):

    def test_there_and_back(self):
        events = tuple(event for event, _ in EVENTS)
        for book in (EMPTY, ALONE, BOOK, with_weight(LINKED, 'bob', 10 ** 59)):
            for log in ((('watch', book, 0),), (('watch', book, 10 ** 59), *events), (('watch', book, 7), events[0], events[0])):
                self.assert_same(read_log(log_lines(log)), log)
                self.assert_same(log_lines(read_log(lines=log_lines(log))), log_lines(log))

    def test_any_books(self):
        for seed in range(60):
            dice = random.Random(seed)
            log = (('watch', random_book(seed), dice.choice((0, 5, 10 ** 59))), *[
                dice.choice(EVENTS)[0] for _ in range(dice.randint(0, 6))])
            self.assert_same(read_log(log_lines(log)), log)

    def test_the_list_stays(self):
        lines = list(LOG)
        read_log(lines)
        self.assert_same(lines, LOG)

    def test_missing_lines(self):
        self.assert_text(0, 0, read_log, [])
        for many in range(1, 8):
            self.assert_text(many, 0, read_log, LOG[:many])
        self.assert_same(len(read_log(LOG[:8])), 1)
        self.assert_text(1, 0, read_log, ['watch 0 1'])
        self.assert_text(2, 0, read_log, ['watch 0 ' + '9' * 60, 'party ann 1'])
        # Lines that are not possible come first.
        self.assert_text(1, 2, read_log, ['watch 0 5', 'party ann 0'])
        self.assert_text(1, 0, read_log, ['watch 0 5', ''])

    def test_first_line(self):
        for at, words in ((1, NO_NUMBER_WORDS), (2, NO_NUMBER_WORDS)):
            for word in words:
                line = ['watch', '3', '7']
                line[at] = word
                self.assert_text(0, at, read_log, [' '.join(line)] + LOG[1:])
                self.assert_text(0, at, read_log, [' '.join(line) + ' 1'])
                self.assert_text(0, at, read_log, [' '.join(line[:at + 1])])
        for word in ('', 'Watch', 'budget', 'watches', '-', 'watch\n'):
            self.assert_text(0, 0, read_log, [word + ' 3 7'] + LOG[1:])
        self.assert_text(0, 1, read_log, ['watch'])
        self.assert_text(0, 2, read_log, ['watch 3'])
        self.assert_text(0, 3, read_log, ['watch 3 7 '] + LOG[1:])
        self.assert_text(0, 3, read_log, ['watch 0 0 0'])
        self.assert_text(0, 1, read_log, ['watch  0 0'])
        self.assert_text(0, 0, read_log, [''])
        self.assert_text(0, 0, read_log, ['', 'watch 0 0'])
        self.assert_text(0, 0, read_log, LOG[1:])

    def test_number_of_lines(self):
        # One line too few is told: the last line of the book is no event, or it is read as one.
        self.assert_text(1, 0, read_log, ['watch 0 0', 'party ann 1'])
        self.assert_same(read_log(['watch 0 1', 'party ann 1', 'build ann - cc - x']), (
            ('watch', ((), (('ann', 1),), (), ()), 0), ('build', ('ann', None, 'cc', (), 'x'))))
        self.assert_same(read_log(['watch 0 2', 'party ann 1', 'build ann - cc - x']), (
            ('watch', ((), (('ann', 1),), (), (('ann', None, 'cc', (), 'x'),)), 0),))
        self.assert_text(2, 0, read_log, ['watch 0 2', 'party ann 1', 'claim x cc'])
        self.assert_text(8, 0, read_log, ['watch 0 8'] + LOG[1:8] + ['claim x cc'])
        self.assert_text(7, 3, read_log, ['watch 0 6'] + LOG[1:7] + ['build cy x 1 - x'])

    def test_lines_left_out(self):
        for at in range(1, 8):
            lines = LOG[:at] + LOG[at + 1:8]
            self.assert_text(7, 0, read_log, lines)
        for at in range(8, len(LOG)):
            self.assert_same(read_log(LOG[:at] + LOG[at + 1:]), read_log(LOG)[:at - 7] + read_log(LOG)[at - 6:])

    def test_lines_exchanged(self):
        for one in range(1, 8):
            for other in range(one + 1, 8):
                lines = list(LOG)
                lines[one], lines[other] = LOG[other], LOG[one]
                kinds = [line.split(' ')[0] for line in lines]
                order = [('source', 'party', 'unlike', 'build').index(kind) for kind in kinds[1:8]]
                first = [at for at in range(1, 7) if order[at] < order[at - 1]]
                if first:
                    self.assert_text(first[0] + 1, 0, read_log, lines)
                else:
                    self.assert_same(log_lines(read_log(lines)), lines)
        self.assert_text(0, 0, read_log, [LOG[1], LOG[0]] + LOG[2:])

    def test_empty_lines(self):
        for at in range(len(LOG) + 1):
            self.assert_text(at, 0, read_log, LOG[:at] + [''] + LOG[at:])
        for at in range(len(LOG)):
            self.assert_text(at, 0, read_log, LOG[:at] + [''] + LOG[at + 1:])
        self.assert_text(1, 0, read_log, ['watch 0 1', ''])
        self.assert_text(1, 0, read_log, ['watch 0 0', ''])

    def test_which_line_is_told(self):
        for at in range(1, len(LOG)):
            words = LOG[at].split(' ')
            for field in range(len(words)):
                line = ' '.join(words[:field] + [words[field].upper() + '.'] + words[field + 1:])
                self.assert_text(at, field, read_log, LOG[:at] + [line] + LOG[at + 1:])
                self.assert_text(at, field, read_log, LOG[:at] + [line] + [''] * 5)
            self.assert_text(at, len(words), read_log, LOG[:at] + [LOG[at] + ' '] + LOG[at + 1:])
            self.assert_text(at, len(words) - 1, read_log, LOG[:at] + [' '.join(words[:-1])] + LOG[at + 1:])

    def test_the_book_may_be_none(self):
        lines = ['watch 1 4', 'source b c loose - q', 'source a c steady - -', 'unlike z y', 'build p - q - r', 'unlike a a']
        log = read_log(lines)
        self.assert_same(log, (('watch', (
            (('b', 'c', (), False, ('q',)), ('a', 'c', (), True, ())), (), (('z', 'y'),), (('p', None, 'q', (), 'r'),)), 1),
            ('unlike', 'a', 'a')))
        self.assert_same(log_lines(log), lines)

    def test_changed_by_chance(self):
        # Each change either is told, or what is read is written as the same lines.
        dice = random.Random(7)
        signs = 'ab1 -,\nAcx0'
        for _ in range(3000):
            lines = list(LOG)
            at = dice.randrange(len(lines))
            k = dice.randrange(len(lines[at]) + 1)
            sign = dice.choice(signs).replace('\n', '-')
            lines[at] = lines[at][:k] + dice.choice((sign, '')) + lines[at][k + dice.choice((0, 1)):]
            try:
                log = read_log(lines)
            except InvalidText as error:
                self.assertTrue(0 <= error.line <= len(lines))
                self.assertTrue(error.line < at + 1 or at == 0 or error.field == 0, (error.line, at))
            else:
                self.assert_same(log_lines(log), lines)
