"""Every example of the document, as it stands there, one after the other with all names kept."""

import pathlib
import unittest

from rebuiltby.errors import RebuiltError

TEXT = (pathlib.Path(__file__).parent / 'examples.txt').read_text()
PROMPT = '>>> '


def rows_of(text):
    """Pairs of what is entered and of what the document says to it, '' for nothing."""
    rows = []
    for line in text.split('\n'):
        if line.startswith(PROMPT):
            rows.append((line[len(PROMPT):], ''))
        elif line:
            rows.append((rows.pop()[0], line))
    return rows


def told(error):
    """How the document writes an error."""
    fields = ', '.join(f'{name}={value!r}' for name, value in vars(error).items())
    return f'raises {type(error).__name__}({fields})'


def answer_to(code, names):
    """What is shown of the code, run with these names."""
    try:
        if code.startswith('from ') or code.split(' ')[1:2] == ['=']:
            exec(code, names)
            return ''
        return repr(eval(code, names))
    except RebuiltError as error:
        return told(error)


class ExamplesTest(unittest.TestCase):

    def test_examples(self):
        names = {}
        for code, expected in rows_of(TEXT):
            self.assertEqual(answer_to(code, names), expected, code)

    def test_all_are_there(self):
        rows = rows_of(TEXT)
        self.assertEqual((len(rows), len([row for row in rows if row[1]])), (88, 36))
        self.assertEqual(len([row for row in rows if row[1].startswith('raises ')]), 8)


if __name__ == '__main__':
    unittest.main()
