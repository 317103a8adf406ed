"""Promises [17] and [21]: the lines by which books are written."""

import unittest

from rebuiltby.bookreadings import book_read, build_read, party_read, source_read, unlike_read
from rebuiltby.booktexts import book_text, build_line, party_line, source_line, unlike_line
from tests.books import ALONE, EMPTY, LINKED, BookCase, random_book

LINKED_TEXT = f"""source app c loose - lib,net
source cc asm steady c -
source lib c steady - -
source net c steady - lib
source old asm loose asm,c -
party ann 3
party bob {10 ** 60}
party cy 1
unlike cc old
unlike lib net
build ann - cc - k
build ann k lib - l
build bob k net l n
build bob k app l,n a
build cy - app - a
build cy - old - o"""


class TextsTest(BookCase):

    def test_lines(self):
        self.assert_same(source_line(('cc', 'c', ('a', 'c'), True, ('x', 'y'))), 'source cc c steady a,c x,y')
        self.assert_same(source_line(source=('a', 'b', (), False, ())), 'source a b loose - -')
        self.assert_same(party_line(('ann', 12)), 'party ann 12')
        self.assert_same(party_line(party=('a', 10 ** 70)), 'party a 1' + '0' * 70)
        self.assert_same(unlike_line(('a', 'b')), 'unlike a b')
        self.assert_same(unlike_line(pair=('b', 'b')), 'unlike b b')
        self.assert_same(build_line(('ann', None, 'cc', (), 'x')), 'build ann - cc - x')
        self.assert_same(build_line(('ann', 'x', 'cc', (), 'y')), 'build ann x cc - y')
        self.assert_same(build_line(build=('ann', 'x', 'cc', ('q', 'p', 'q'), 'y')), 'build ann x cc q,p,q y')

    def test_books(self):
        self.assert_same(book_text(LINKED), LINKED_TEXT)
        self.assert_same(book_text(book=EMPTY), '')
        self.assert_same(book_text(ALONE).split('\n')[-2:], ['build ann - cc - x', 'build cy x cc - x'])

    def test_values_that_are_no_book(self):
        odd = ((('b', 'c', (), True, ('q',)), ('a', 'c', (), True, ())), (('z', 1), ('z', 1)), (('b', 'a'),), ())
        lines = ['source b c steady - q', 'source a c steady - -', 'party z 1', 'party z 1', 'unlike b a']
        self.assert_same(book_text(odd), '\n'.join(lines))
        self.assert_same(book_read(book_text(odd)), odd)

    def test_what_is_written_is_read_again(self):
        for seed in range(80):
            book = random_book(seed)
            self.assert_same(book_read(book_text(book)), book)
            for rows, line, read in zip(book, (source_line, party_line, unlike_line, build_line),
                                        (source_read, party_read, unlike_read, build_read)):
                for row in rows:
                    self.assert_same(read(line(row)), row)


if __name__ == '__main__':
    unittest.main()
