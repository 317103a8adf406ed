"""Some of the rules of LANGUAGE.md, those that are easily broken and easily seen."""

import ast
import builtins
import pathlib
import re
import unittest

import rebuiltby

FOLDER = pathlib.Path(rebuiltby.__file__).parent
FILES = {path.stem: path.read_text() for path in sorted(FOLDER.glob('*.py'))}
TREES = {name: ast.parse(text) for name, text in FILES.items()}
# Where examples are run, builtins gets a name _ for the last result.
PYTHONS = set(dir(builtins)) - {'_'}
BUILTINS = set(
    'len range enumerate zip min max sum abs sorted reversed int str bool bytes list tuple dict set frozenset isinstance '
    'ord repr any all divmod iter next map super property staticmethod classmethod Exception ValueError TypeError KeyError '
    'IndexError LookupError ZeroDivisionError ArithmeticError OverflowError RuntimeError NotImplementedError '
    'AttributeError StopIteration NotImplemented'.split())
METHODS = set(
    'append clear copy count endswith extend find get index insert isalnum isalpha isdigit islower isspace isupper items '
    'join keys ljust lower lstrip partition pop remove replace reverse rfind rjust rpartition rsplit rstrip setdefault '
    'split splitlines startswith strip update upper values zfill bit_length __init__'.split())
BARRED_NAMES = set(
    'register mro elements open input law version_info with_traceback add_note attrgetter breakpoint builtins compile '
    'copyright credits delattr dir eval exec exit gc getattr globals hasattr help id importlib license locals '
    'methodcaller os quit setattr type vars sys'.split())
BARRED_WORDS = set(
    'type typing typing_extensions enum Enum IntEnum StrEnum Flag IntFlag Generic Protocol ABC ABCMeta namedtuple '
    'NamedTuple TypedDict TYPE_CHECKING abstractmethod'.split())
TAKE_LISTS = ('any', 'all', 'min', 'max', 'sum', 'sorted')
CAUGHT = ('KeyError', 'ZeroDivisionError', 'StopIteration')


def nodes(kind):
    """All nodes of a kind, each with the name of its file."""
    return [(name, node) for name, tree in TREES.items() for node in ast.walk(tree) if isinstance(node, kind)]


def names_bound(tree):
    """The names of the variables, parameters, functions and classes of a file."""
    found = [node.id for node in ast.walk(tree) if isinstance(node, ast.Name) and not isinstance(node.ctx, ast.Load)]
    found += [node.arg for node in ast.walk(tree) if isinstance(node, ast.arg)]
    return found + [node.name for node in ast.walk(tree) if isinstance(node, (ast.FunctionDef, ast.ClassDef))]


def methods_of_own():
    """The names of the methods and properties of the package."""
    return {row.name for _, node in nodes(ast.ClassDef) for row in node.body if isinstance(row, ast.FunctionDef)}


class LanguageTest(unittest.TestCase):

    def test_files(self):
        self.assertTrue(all(path.suffix == '.py' for path in FOLDER.iterdir() if path.name != '__pycache__'))
        for name, text in FILES.items():
            self.assertTrue(re.fullmatch('[a-z]+|__init__|__main__', name), name)
            self.assertTrue(re.fullmatch(r'[ -~\n]*', text), name)
            self.assertLessEqual(len(text.split('\n')), 400, name)
            self.assertLessEqual(max(len(line) for line in text.split('\n')), 120, name)

    def test_functions(self):
        for name, node in nodes(ast.FunctionDef):
            self.assertLessEqual(node.end_lineno - node.lineno + 1, 40, (name, node.name))
            for row in node.decorator_list:
                self.assertIn(ast.unparse(row).split('.')[-1], ('property', 'setter', 'staticmethod', 'classmethod'))

    def test_imports(self):
        self.assertEqual(nodes(ast.Import), [])
        imported = {name: set() for name in FILES}
        for name, node in nodes(ast.ImportFrom):
            package, module = node.module.split('.')
            self.assertEqual((package, node.level), ('rebuiltby', 0))
            imported[name].add(module)
            defined = [row.name for row in TREES[module].body if isinstance(row, (ast.FunctionDef, ast.ClassDef))]
            for row in node.names:
                self.assertIsNone(row.asname)
                self.assertIn(row.name, defined)
                used = [part.id for part in ast.walk(TREES[name]) if isinstance(part, ast.Name)]
                self.assertIn(row.name, used, f'{name} does not use {row.name}')
        while imported:
            free = [name for name in imported if not imported[name] & set(imported)]
            self.assertTrue(free, f'{sorted(imported)} import each other')
            imported = {name: imported[name] for name in imported if name not in free}

    def test_module_level(self):
        for name, tree in TREES.items():
            for node in tree.body:
                docstring = isinstance(node, ast.Expr) and isinstance(node.value, ast.Constant)
                self.assertTrue(docstring or isinstance(
                    node, (ast.ImportFrom, ast.FunctionDef, ast.ClassDef, ast.Assign)), (name, node.lineno))

    def test_names(self):
        own = methods_of_own()
        for name, tree in TREES.items():
            imports = [row.name for node in tree.body if isinstance(node, ast.ImportFrom) for row in node.names]
            classes = [node.name for node in tree.body if isinstance(node, ast.ClassDef)]
            for bound in names_bound(tree):
                self.assertNotIn(bound, BARRED_NAMES, name)
                self.assertNotIn(bound, imports, name)
                self.assertTrue(bound in own or bound not in PYTHONS, (name, bound))
                self.assertFalse(bound.startswith('__') and bound not in own, (name, bound))
            self.assertEqual([bound for bound in classes if names_bound(tree).count(bound) > 1], [])

    def test_builtins(self):
        for name, node in nodes(ast.Name):
            self.assertTrue(node.id in BUILTINS or node.id not in PYTHONS, (name, node.id))

    def test_methods_of_builtin_values(self):
        own = methods_of_own()
        for name, node in nodes(ast.Call):
            if isinstance(node.func, ast.Attribute):
                self.assertIn(node.func.attr, METHODS | own, (name, node.lineno))
        self.assertFalse([row for row in nodes(ast.Attribute) if row[1].attr == 'sort'])

    def test_lists_in_the_place_of_generators(self):
        # The package has a class with an order, with __eq__ and with operators (L5, L7).
        for name, node in nodes(ast.Call):
            if isinstance(node.func, ast.Name) and node.func.id in TAKE_LISTS:
                self.assertFalse(any(isinstance(row, ast.GeneratorExp) for row in node.args), (name, node.lineno))
            if isinstance(node.func, ast.Name) and node.func.id in ('sorted', 'min', 'max'):
                self.fail(f'{name}, {node.lineno}: use ascending, or make sure that these are plainly numbers')

    def test_values_and_expressions(self):
        for name, node in nodes(ast.Constant):
            self.assertNotIsInstance(node.value, (float, complex), name)
            if isinstance(node.value, str):
                self.assertNotIn('%', node.value, (name, node.lineno))
        for name, node in nodes(ast.BinOp):
            self.assertNotIsInstance(node.op, (ast.Div, ast.Pow, ast.MatMult), (name, node.lineno))
        for name, node in nodes(ast.Compare):
            for op, row in zip(node.ops, node.comparators):
                if isinstance(op, (ast.Is, ast.IsNot)):
                    self.assertIsInstance(row, ast.Constant, (name, node.lineno))
        for name, node in nodes(ast.Starred):
            self.assertIsInstance(node.value, (ast.Name, ast.Attribute, ast.Tuple, ast.List), (name, node.lineno))

    def test_statements(self):
        for kind in (ast.Global, ast.AsyncFunctionDef, ast.AsyncFor, ast.AsyncWith, ast.Await):
            self.assertEqual(nodes(kind), [])
        own = [node.name for node in TREES['errors'].body if isinstance(node, ast.ClassDef)]
        for name, node in nodes(ast.ExceptHandler):
            self.assertIsInstance(node.type, ast.Name, (name, node.lineno))
            self.assertIn(node.type.id, [*own, *CAUGHT], (name, node.lineno))

    def test_words(self):
        for name, node in nodes((ast.Name, ast.Attribute, ast.arg, ast.keyword)):
            word = getattr(node, 'id', None) or getattr(node, 'attr', None) or getattr(node, 'arg', None)
            self.assertNotIn(word, BARRED_WORDS, name)
        for name, node in nodes((ast.FunctionDef, ast.ClassDef)):
            self.assertNotIn(node.name, BARRED_WORDS, name)

    def test_augmented_assignments(self):
        # What an operator runs adds nothing but literal numbers by += (L5), so all of the package does.
        for name, node in nodes(ast.AugAssign):
            self.assertIsInstance(node.target, (ast.Name, ast.Attribute), (name, node.lineno))
            self.assertIsInstance(node.value, ast.Constant, (name, node.lineno))


if __name__ == '__main__':
    unittest.main()
