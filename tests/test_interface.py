"""The interface of the document: names, parameters, and the files in which they are defined."""

import ast
import doctest
import importlib
import inspect
import pathlib
import unittest

import rebuiltby

FOLDER = pathlib.Path(rebuiltby.__file__).parent
# For each module its functions with their parameters, those behind a * by name only.
FUNCTIONS = {
    'kinds': {
        'is_integer': 'thing', 'is_number': 'thing', 'is_name': 'thing', 'is_set': 'thing', 'is_source': 'thing',
        'is_party': 'thing', 'is_build': 'thing', 'is_fact': 'thing', 'is_book': 'thing',
    },
    'bookchecker': {'lets_book': 'thing'},
    'bookparts': {
        'files_of': 'book', 'weight_of': 'book, parties', 'builds_by': 'book, party', 'builds_of': 'book, file',
        'compiling': 'book, language', 'uses_below': 'book, source',
    },
    'bookchanges': {
        'with_build': 'book, build, *, at=None', 'without_build': 'book, k', 'with_weight': 'book, party, weight',
        'with_unlike': 'book, one, other', 'without_unlike': 'book, one, other', 'joined': 'book, other',
        'renamed': 'book, *, parties=(), sources=(), files=()',
    },
    'booktexts': {
        'source_line': 'source', 'party_line': 'party', 'unlike_line': 'pair', 'build_line': 'build', 'book_text': 'book',
    },
    'bookreadings': {
        'source_read': 'text, *, line=0', 'party_read': 'text, *, line=0', 'unlike_read': 'text, *, line=0',
        'build_read': 'text, *, line=0', 'book_read': 'text',
    },
    'closing': {
        'facts_of': 'book, trusted, *, supposed=()', 'clashes_of': 'book, trusted, *, supposed=()',
        'is_calm': 'book, trusted, *, supposed=()', 'classes_of': 'book, trusted, *, supposed=()',
    },
    'stepsmaking': {
        'steps_to': 'book, trusted, file, source, *, supposed=()',
        'steps_to_clash': 'book, trusted, *, supposed=()',
    },
    'stepchecker': {'lets_steps': 'book, thing, *, supposed=()'},
    'tablemaking': {'table_of': 'book, trusted, *, supposed=()'},
    'tablechecker': {'lets_table': 'book, trusted, thing, *, supposed=()'},
    'claimnumbers': {'base_of': 'book', 'wrong_of': 'book, file, source', 'right_of': 'book, file, source'},
    'standings': {'standing_of': 'book, file, source'},
    'judging': {
        'verdict': 'book, file, source, budget', 'sure_facts': 'book, budget', 'suspects': 'book, budget',
        'cleared': 'book, budget',
    },
    'orderkinds': {'orders': 'book', 'is_decided': 'book, party, compiler, source, parts'},
    'ordering': {'plain_answer': 'book, party, compiler, source, parts', 'answered': 'book, *orders'},
    'rounds': {
        'after_rounds': 'book, n', 'full_book': 'book', 'rounds_to': 'book, file, source, budget',
        'sure_of': 'book, file, source',
    },
    'leastsets': {
        'bad_sets': 'book', 'wrong_sets': 'book, file, source', 'right_sets': 'book, file, source',
        'supports': 'book, file, source', 'clash_sets': 'book',
    },
    'numberpapers': {'number_paper': 'book, what, *, file=None, source=None'},
    'numberchecker': {'lets_number': 'book, what, thing, *, file=None, source=None'},
    'unseen': {'unseen_sets': 'book, file, source'},
    'planning': {'plan_to': 'book, file, source, budget'},
    'planchecker': {'lets_plan': 'book, file, source, budget, thing'},
    'comparing': {'are_alike': 'book, other', 'difference': 'book, other'},
    'differencechecker': {'lets_difference': 'book, other, thing'},
    'leaning': {'needless_builds': 'book', 'lean_book': 'book'},
    'eventtexts': {'event_line': 'event', 'log_lines': 'log'},
    'replaying': {'is_log': 'thing', 'replayed': 'log'},
    'eventreadings': {'read_event': 'text', 'read_log': 'lines'},
}
CLASSES = {
    'errors': {
        'RebuiltError': '', 'PaperError': '', 'BookError': '', 'WatchError': '', 'TextError': '',
        'InvalidPaper': 'word, at', 'NotUsable': 'word, at', 'NotCalm': 'steps', 'InvalidEvent': 'event, reason',
        'NothingToUndo': 'steps', 'InvalidText': 'line, field', 'InvalidRow': 'row',
    },
    'bookclasses': {
        'Book': 'sources=(), parties=(), unlike=(), builds=()', 'Weighted': 'sources, parties, unlike, builds, *weights',
        'Renamed': 'sources, parties, unlike, builds, *, files=()',
    },
    'knowing': {'Knowledge': 'book, *trusted'},
    'worlds': {'World': 'book, bad, table'},
    'standings': {'Standing': 'right, wrong'},
    'unseen': {'Unseen': 'book, bad, file, source'},
    'watches': {'Watch': 'book, *, budget=0'},
    'desk': {'Desk': 'book'},
}
# For each class its methods, properties and values, and the parameters of those that are called by name.
METHODS = {
    'Book': (
        '__init__', 'sources', 'parties', 'unlike', 'builds', 'form', 'files', '__getitem__', '__contains__', '__len__',
        '__iter__', '__str__', '__call__', '__eq__', '__le__', '__add__', '__or__', 'without', 'read', 'plain',
    ),
    'Weighted': ('__init__', 'told'),
    'Renamed': ('__init__', 'told'),
    'Knowledge': (
        '__init__', 'trusted', 'facts', 'clashes', '__contains__', '__len__', '__bool__', '__call__', '__add__', '__sub__',
        '__and__', '__or__', '__le__', '__ge__', '__eq__', 'of_all', 'nothing',
    ),
    'World': (
        '__init__', 'bad', 'book_now', 'table_now', '__len__', '__getitem__', '__iter__', 'give', 'is_right', 'copy', 'tried',
    ),
    'Unseen': ('__init__', 'bad', 'book_now', 'table_now', '__len__', '__getitem__', '__iter__', 'give', 'is_right'),
    'Standing': ('__init__', 'base', '__call__', '__neg__', '__add__', '__radd__', '__le__', '__eq__', '__str__', 'open_at'),
    'Watch': (
        '__init__', 'MOST', 'BUILDS', 'book_now', 'budget_now', 'claims_now', 'add_build', 'add_source', 'add_unlike',
        'set_weight', 'add_claim', 'set_budget', 'go', '__getitem__', '__setitem__', '__contains__', '__iter__', '__len__',
        '__eq__', '__str__', 'verdicts_now', 'standing_now', 'changes', 'alarms', 'suspects_now', 'cleared_now',
        'next_orders', 'barred', 'table', 'tried', 'undo', 'do_all', 'tally', 'log',
    ),
    'Desk': ('__init__', 'say', 'tally'),
}
PARAMETERS = {
    'Book': {'without': 'self, k', 'read': 'text', 'plain': '*names', '__call__': 'self, file'},
    'Knowledge': {'__call__': 'self, file', 'of_all': 'book', 'nothing': 'book'},
    'World': {
        'give': 'self, party, compiler, source, parts', 'is_right': 'self, file, source', 'copy': 'self', 'tried': 'self, rows',
    },
    'Unseen': {'give': 'self, party, compiler, source, parts', 'is_right': 'self, file, source'},
    'Standing': {'__call__': 'self, budget', 'open_at': 'n'},
    'Watch': {
        'add_build': 'self, build', 'add_source': 'self, source', 'add_unlike': 'self, one, other',
        'set_weight': 'self, party, weight', 'add_claim': 'self, file, source', 'set_budget': 'self, k', 'go': 'self, event',
        'verdicts_now': 'self', 'standing_now': 'self, file, source', 'changes': 'self, k', 'alarms': 'self',
        'suspects_now': 'self', 'cleared_now': 'self', 'next_orders': 'self', 'barred': 'self, event', 'table': 'self',
        'tried': 'self, events', 'undo': 'self', 'do_all': 'self, events, *, keep=False', 'tally': 'self', 'log': 'self',
    },
    'Desk': {'say': 'self, row', 'tally': 'self'},
}


def class_of(name):
    """The class of this name."""
    module, = [module for module in CLASSES if name in CLASSES[module]]
    return getattr(importlib.import_module(f'rebuiltby.{module}'), name)


class InterfaceTest(unittest.TestCase):

    def test_each_name_is_defined_in_its_file(self):
        for table, kind in ((FUNCTIONS, ast.FunctionDef), (CLASSES, ast.ClassDef)):
            for module, rows in table.items():
                tree = ast.parse((FOLDER / f'{module}.py').read_text())
                defined = [node.name for node in tree.body if isinstance(node, kind)]
                for name in rows:
                    self.assertEqual(defined.count(name), 1, (module, name))

    def test_parameters_of_functions(self):
        for module, rows in FUNCTIONS.items():
            for name, told in rows.items():
                function = getattr(importlib.import_module(f'rebuiltby.{module}'), name)
                self.assertEqual(str(inspect.signature(function)), f'({told})', name)

    def test_parameters_of_classes(self):
        for rows in CLASSES.values():
            for name, told in rows.items():
                if told:
                    self.assertEqual(str(inspect.signature(class_of(name))), f'({told})', name)

    def test_methods_stand_in_the_class_itself(self):
        for name, methods in METHODS.items():
            for method in methods:
                self.assertIn(method, vars(class_of(name)))

    def test_parameters_of_methods(self):
        for name, methods in PARAMETERS.items():
            for method, told in methods.items():
                self.assertEqual(str(inspect.signature(getattr(class_of(name), method))), f'({told})', (name, method))

    def test_examples_of_the_readme(self):
        done = doctest.testfile(str(FOLDER.parent / 'README.md'), module_relative=False)
        self.assertEqual((done.failed, done.attempted > 5), (0, True))


if __name__ == '__main__':
    unittest.main()
