"""Promises [18] and [21]: what lines and texts are read as, and which word is told."""

import random
import unittest

from rebuiltby.bookreadings import book_read, build_read, party_read, source_read, unlike_read
from rebuiltby.booktexts import book_text, build_line, party_line, source_line, unlike_line
from rebuiltby.errors import InvalidText
from rebuiltby.kinds import is_book
from tests.books import EMPTY, LINKED, BookCase, random_book

NO_NAME_WORDS = ('', '-', 'A', '1', 'aB', 'a.b', 'a,b', 'abcdefghi', 'a\n', '\na', '\n', 'a\tb', 'a-', ',')
NO_LIST_WORDS = ('', '--', 'a,', ',a', ',', 'a,,b', '-,a', 'a,-', 'A', 'a,B', '1', 'a;b', 'a\n', 'a,abcdefghi', '()')
LINES = {
    source_read: 'source cc c steady a,c x,y',
    party_read: 'party ann 12',
    unlike_read: 'unlike b a',
    build_read: 'build ann x cc q,p,q y',
}


class LinesTest(BookCase):

    def assert_fields(self, read, field, words):
        """None of the words can stand in this field of the line that is read."""
        line = LINES[read].split(' ')
        for word in words:
            text = ' '.join(line[:field] + [word] + line[field + 1:])
            self.assert_text(0, field, read, text)
            # The first such word is told, and it is told ahead of a word too many or missing.
            self.assert_text(7, field, read, text + ' ', line=7)
            self.assert_text(0, field, read, ' '.join(line[:field] + [word]))

    def test_values(self):
        self.assert_same(source_read('source cc c steady a,c x,y'), ('cc', 'c', ('a', 'c'), True, ('x', 'y')))
        self.assert_same(source_read(text='source a b loose - -', line=3), ('a', 'b', (), False, ()))
        self.assert_same(party_read('party ann 12'), ('ann', 12))
        self.assert_same(party_read('party ann 1' + '0' * 59), ('ann', 10 ** 59))
        self.assert_same([unlike_read('unlike b a'), unlike_read('unlike a a')], [('b', 'a'), ('a', 'a')])
        self.assert_same(build_read('build ann - cc - x'), ('ann', None, 'cc', (), 'x'))
        self.assert_same(build_read('build ann x cc - x'), ('ann', 'x', 'cc', (), 'x'))
        self.assert_same(build_read('build ann x cc q,p,q y'), ('ann', 'x', 'cc', ('q', 'p', 'q'), 'y'))
        self.assert_same(source_read('source source party loose build unlike'),
                         ('source', 'party', ('build',), False, ('unlike',)))

    def test_first_words(self):
        words = ('source', 'party', 'unlike', 'build', 'Source', 'sources', '', '-', 'source\n')
        for read, line in LINES.items():
            self.assert_fields(read, 0, [word for word in words if word != line.split(' ')[0]])

    def test_names(self):
        for read, fields in ((source_read, (1, 2)), (party_read, (1,)), (unlike_read, (1, 2)), (build_read, (1, 3, 5))):
            for field in fields:
                self.assert_fields(read, field, NO_NAME_WORDS)

    def test_words_of_sources(self):
        self.assert_fields(source_read, 3, ('', 'Steady', 'true', 'True', '-', 'steadyloose', 'loose\n', '1'))
        for field in (4, 5):
            self.assert_fields(source_read, field, NO_LIST_WORDS + ('b,a', 'a,a', 'a,c,b'))

    def test_weights(self):
        words = ('', '0', '00', '01', '-1', '+1', '1_0', '1.0', 'one', '1 '.strip() + '\n', '-', 'x1', '1x', '1' * 61,
                 '1' + '0' * 60, '0' * 60, '1' * 4000, '0x1', '1e3')
        self.assert_fields(party_read, 2, words)
        self.assert_same(party_read('party a ' + '9' * 60), ('a', 10 ** 60 - 1))

    def test_compilers_and_parts(self):
        self.assert_fields(build_read, 2, [word for word in NO_NAME_WORDS if word != '-'])
        self.assert_fields(build_read, 4, NO_LIST_WORDS)
        for word in ('a', 'a,b', '', '--', 'A'):
            self.assert_text(0, 4, build_read, f'build ann - cc {word} y')
        self.assert_text(0, 4, build_read, 'build ann - cc a Y')

    def test_missing_words(self):
        for read, line in LINES.items():
            words = line.split(' ')
            for many in range(1, len(words)):
                self.assert_text(4, many, read, ' '.join(words[:many]), line=4)
            self.assert_text(0, 0, read, '')

    def test_words_too_many(self):
        for read, line in LINES.items():
            many = len(line.split(' '))
            for more in (' ', ' x', ' x x', '  '):
                self.assert_text(0, many, read, line + more)
            self.assert_text(0, 0, read, ' ' + line)
            self.assert_text(0, 1, read, line.replace(' ', '  ', 1))

    def test_a_newline_belongs_to_its_word(self):
        for read, line in LINES.items():
            self.assert_text(0, len(line.split(' ')) - 1, read, line + '\n')
            self.assert_text(0, 0, read, '\n' + line)
        self.assert_text(0, 1, party_read, 'party ann\nparty bob 1')

    def test_line_is_kept_as_it_is(self):
        self.assert_text(10 ** 60, 0, party_read, 'x', line=10 ** 60)
        self.assertRaises(TypeError, party_read, 'party ann 1', 0)

    def test_what_is_read_is_written_again(self):
        self.assertEqual([source_line(source_read(LINES[source_read])), party_line(party_read(LINES[party_read]))],
                         [LINES[source_read], LINES[party_read]])
        self.assertEqual([unlike_line(unlike_read(LINES[unlike_read])), build_line(build_read(LINES[build_read]))],
                         [LINES[unlike_read], LINES[build_read]])


class BooksTest(BookCase):

    def test_example(self):
        self.assert_text(1, 2, book_read, 'party ann 1\nparty bob 0')

    def test_books(self):
        self.assert_same([book_read(''), book_read(text='party a 1')], [EMPTY, ((), (('a', 1),), (), ())])
        self.assert_same(book_read(book_text(LINKED)[:book_text(LINKED).index('party bob')] + 'party bob 9'),
                         (LINKED[0], (('ann', 3), ('bob', 9)), (), ()))
        self.assert_same(book_read('source a c loose - -\nbuild z - q - x'),
                         ((('a', 'c', (), False, ()),), (), (), (('z', None, 'q', (), 'x'),)))

    def test_what_is_read_may_be_no_book(self):
        self.assert_same(book_read('party b 1\nparty a 1\nunlike z y\nbuild q - r - s\nbuild q - r - s'),
                         ((), (('b', 1), ('a', 1)), (('z', 'y'),), (('q', None, 'r', (), 's'),) * 2))

    def test_newlines(self):
        self.assert_text(0, 0, book_read, '\n')
        self.assert_text(1, 0, book_read, 'party a 1\n')
        self.assert_text(0, 0, book_read, '\nparty a 1')
        self.assert_text(1, 0, book_read, 'party a 1\n\nparty b 1')
        self.assert_text(0, 0, book_read, ' ')

    def test_lines_in_order(self):
        lines = ['source a c loose - -', 'party a 1', 'unlike a b', 'build a - a - x']
        for k, first in enumerate(lines):
            for m, second in enumerate(lines):
                if m < k:
                    self.assert_text(1, 0, book_read, first + '\n' + second)
                    # Word 0 is told although a later word cannot stand, either.
                    self.assert_text(1, 0, book_read, first + '\n' + second + ' X')
                else:
                    self.assertTrue(is_book(book_read(first + '\n' + second)))
        self.assert_text(3, 0, book_read, '\n'.join([lines[0], lines[1], lines[3], lines[1]]))
        self.assert_text(2, 0, book_read, '\n'.join([lines[0], lines[1], 'x', lines[3]]))

    def test_the_first_line_that_is_not_possible(self):
        self.assert_text(0, 2, book_read, 'party a 0\nparty b')
        self.assert_text(1, 2, book_read, 'party a 1\nparty b\nsource')
        self.assert_text(2, 5, book_read, 'party a 1\nparty a 1\nbuild a - c -\n')
        self.assert_text(0, 3, book_read, 'party a 1 \nparty')

    def test_what_is_read_of_changed_texts_is_written_again(self):
        dice = random.Random(18)
        read = 0
        for seed in range(300):
            text = book_text(random_book(seed, builds=3, sources=2, parties=2))
            for _ in range(8):
                at = dice.randrange(len(text) + 1)
                other = text[:at] + dice.choice(' \n-,a1sx0') + text[at + dice.randint(0, 1):]
                try:
                    book = book_read(other)
                except InvalidText as error:
                    lines = other.split('\n')
                    self.assertTrue(0 <= error.line < len(lines))
                    self.assertTrue(0 <= error.field <= len(lines[error.line].split(' ')))
                else:
                    read += 1
                    self.assertTrue(is_book(book))
                    self.assertEqual(book_text(book), other)
        self.assertGreater(read, 100)


if __name__ == '__main__':
    unittest.main()
