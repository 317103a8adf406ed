"""Promise [73]: the lines of events and of logs."""

from rebuiltby.booktexts import book_text, build_line, source_line
from rebuiltby.eventtexts import event_line, log_lines
from tests.books import ALONE, BOOK, EMPTY, LINKED, BookCase, random_book

# One event of each form, some of them never possible in any watch, with its line.
EVENTS = (
    (('build', ('cy', 't', 'cc', (), 'y')), 'build cy t cc - y'),
    (('build', ('ann', None, 'cc', (), 'x')), 'build ann - cc - x'),
    (('build', ('ann', 'x', 'cc', ('q', 'p', 'q'), 'y')), 'build ann x cc q,p,q y'),
    (('source', ('cc', 'c', ('a', 'c'), True, ('x', 'y'))), 'source cc c steady a,c x,y'),
    (('source', ('a', 'b', (), False, ())), 'source a b loose - -'),
    (('unlike', 'cc', 'tcc'), 'unlike cc tcc'),
    (('unlike', 'tcc', 'cc'), 'unlike tcc cc'),
    (('unlike', 'a', 'a'), 'unlike a a'),
    (('weight', 'ann', 1), 'weight ann 1'),
    (('weight', 'weight', 10 ** 59), 'weight weight 1' + '0' * 59),
    (('claim', 'x', 'cc'), 'claim x cc'),
    (('claim', 'claim', 'budget'), 'claim claim budget'),
    (('budget', 0), 'budget 0'),
    (('budget', 10 ** 60 - 1), 'budget ' + '9' * 60),
)


class EventTextsTest(BookCase):

    def test_events(self):
        for event, line in EVENTS:
            self.assert_same(event_line(event), line)
            self.assert_same(event_line(event=event), line)

    def test_the_lines_of_books(self):
        for seed in range(40):
            book = random_book(seed)
            for source in book[0]:
                self.assert_same(event_line(('source', source)), source_line(source))
            for build in book[3]:
                self.assert_same(event_line(('build', build)), build_line(build))

    def test_logs(self):
        self.assert_same(log_lines((('watch', EMPTY, 0),)), ['watch 0 0'])
        self.assert_same(log_lines(log=(('watch', EMPTY, 10 ** 59), ('budget', 0))), ['watch 1' + '0' * 59 + ' 0', 'budget 0'])
        self.assert_same(log_lines((('watch', ALONE, 12), ('claim', 'x', 'cc'))), [
            'watch 12 7', 'source cc c steady c -', 'source tcc c steady c -', 'party ann 1', 'party bob 1', 'party cy 1',
            'build ann - cc - x', 'build cy x cc - x', 'claim x cc'])

    def test_logs_with_all_events(self):
        events = tuple(event for event, _ in EVENTS)
        for book in (EMPTY, BOOK, LINKED):
            text = book_text(book)
            lines = text.split('\n') if text else []
            told = log_lines((('watch', book, 3), *events, *events))
            self.assert_same(told, ['watch 3 ' + str(len(lines)), *lines, *[line for _, line in EVENTS + EVENTS]])

    def test_the_list_is_new(self):
        log = (('watch', ALONE, 1), ('budget', 2))
        log_lines(log).append('')
        self.assert_same(len(log_lines(log)), 9)
