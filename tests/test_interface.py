"""The interface of the document: names, parameters, and the files in which they are defined."""

import ast
import doctest
import importlib
import inspect
import pathlib
import unittest

import rebuiltby

FOLDER = pathlib.Path(rebuiltby.__file__).parent
# For each module its functions with their parameters, those behind a * by name only.
FUNCTIONS = {
    'kinds': {
        'is_integer': 'thing', 'is_number': 'thing', 'is_name': 'thing', 'is_set': 'thing', 'is_source': 'thing',
        'is_party': 'thing', 'is_build': 'thing', 'is_fact': 'thing', 'is_book': 'thing',
    },
    'bookchecker': {'lets_book': 'thing'},
    'bookparts': {
        'files_of': 'book', 'weight_of': 'book, parties', 'builds_by': 'book, party', 'builds_of': 'book, file',
        'compiling': 'book, language', 'uses_below': 'book, source',
    },
    'bookchanges': {
        'with_build': 'book, build, *, at=None', 'without_build': 'book, k', 'with_weight': 'book, party, weight',
        'with_unlike': 'book, one, other', 'without_unlike': 'book, one, other', 'joined': 'book, other',
        'renamed': 'book, *, parties=(), sources=(), files=()',
    },
    'booktexts': {
        'source_line': 'source', 'party_line': 'party', 'unlike_line': 'pair', 'build_line': 'build', 'book_text': 'book',
    },
    'bookreadings': {
        'source_read': 'text, *, line=0', 'party_read': 'text, *, line=0', 'unlike_read': 'text, *, line=0',
        'build_read': 'text, *, line=0', 'book_read': 'text',
    },
    'closing': {
        'facts_of': 'book, trusted, *, supposed=()', 'clashes_of': 'book, trusted, *, supposed=()',
        'is_calm': 'book, trusted, *, supposed=()', 'classes_of': 'book, trusted, *, supposed=()',
    },
    'stepsmaking': {
        'steps_to': 'book, trusted, file, source, *, supposed=()',
        'steps_to_clash': 'book, trusted, *, supposed=()',
    },
    'claimnumbers': {'base_of': 'book', 'wrong_of': 'book, file, source', 'right_of': 'book, file, source'},
}
CLASSES = {
    'errors': {
        'RebuiltError': '', 'PaperError': '', 'BookError': '', 'WatchError': '', 'TextError': '',
        'InvalidPaper': 'word, at', 'NotUsable': 'word, at', 'NotCalm': 'steps', 'InvalidEvent': 'event, reason',
        'NothingToUndo': 'steps', 'InvalidText': 'line, field', 'InvalidRow': 'row',
    },
    'bookclasses': {
        'Book': 'sources=(), parties=(), unlike=(), builds=()', 'Weighted': 'sources, parties, unlike, builds, *weights',
        'Renamed': 'sources, parties, unlike, builds, *, files=()',
    },
}
METHODS = {
    'Book': (
        '__init__', 'sources', 'parties', 'unlike', 'builds', 'form', 'files', '__getitem__', '__contains__', '__len__',
        '__iter__', '__str__', '__call__', '__eq__', '__le__', '__add__', '__or__', 'without', 'read', 'plain',
    ),
    'Weighted': ('__init__', 'told'),
    'Renamed': ('__init__', 'told'),
}


class InterfaceTest(unittest.TestCase):

    def test_each_name_is_defined_in_its_file(self):
        for table, kind in ((FUNCTIONS, ast.FunctionDef), (CLASSES, ast.ClassDef)):
            for module, rows in table.items():
                tree = ast.parse((FOLDER / f'{module}.py').read_text())
                defined = [node.name for node in tree.body if isinstance(node, kind)]
                for name in rows:
                    self.assertEqual(defined.count(name), 1, (module, name))

    def test_parameters_of_functions(self):
        for module, rows in FUNCTIONS.items():
            for name, told in rows.items():
                function = getattr(importlib.import_module(f'rebuiltby.{module}'), name)
                self.assertEqual(str(inspect.signature(function)), f'({told})', name)

    def test_parameters_of_classes(self):
        for module, rows in CLASSES.items():
            for name, told in rows.items():
                if told:
                    kind = getattr(importlib.import_module(f'rebuiltby.{module}'), name)
                    self.assertEqual(str(inspect.signature(kind)), f'({told})', name)

    def test_methods_stand_in_the_class_itself(self):
        module = importlib.import_module('rebuiltby.bookclasses')
        for name, methods in METHODS.items():
            for method in methods:
                self.assertIn(method, vars(getattr(module, name)))

    def test_examples_of_the_readme(self):
        done = doctest.testfile(str(FOLDER.parent / 'README.md'), module_relative=False)
        self.assertEqual((done.failed, done.attempted > 5), (0, True))


if __name__ == '__main__':
    unittest.main()
