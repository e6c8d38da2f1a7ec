"""The rules of the language that can be seen file by file, so that a slip is found ahead of a submission."""

import ast
import pathlib
import unittest

from test_interface import LISTED

FOLDER = pathlib.Path(__file__).resolve().parent.parent / 'seldomseen'
FILES = sorted(FOLDER.glob('*.py'))

LIBRARY = {
    'heapq': {'heappush', 'heappop', 'heapify', 'heapreplace', 'heappushpop'},
    'math': {'gcd', 'lcm', 'isqrt', 'comb', 'perm', 'factorial'},
    'itertools': {'product', 'combinations', 'permutations'}}
BUILTINS = set(
    'len range enumerate zip min max sum abs sorted reversed int str bool list tuple dict set frozenset '
    'isinstance ord repr any all divmod iter next map property staticmethod classmethod super Exception ValueError '
    'TypeError KeyError IndexError LookupError ZeroDivisionError ArithmeticError OverflowError RuntimeError '
    'NotImplementedError AttributeError StopIteration NotImplemented'.split())
DOUBLE = set(
    '__init__ __eq__ __repr__ __str__ __len__ __enter__ __exit__ __call__ __iter__ __class__ __name__'.split())
BARRED = set(
    'register mro elements open input law version_info with_traceback add_note attrgetter breakpoint builtins compile '
    'copyright credits delattr dir eval exec exit gc getattr globals hasattr help id importlib license locals '
    'methodcaller os quit setattr type vars sys typing enum'.split())
METHODS = set(
    'append clear copy count endswith extend find get index insert isalnum isalpha isdigit islower isspace isupper items '
    'join keys ljust lower lstrip partition pop remove replace reverse rfind rjust rpartition rsplit rstrip setdefault '
    'split splitlines startswith strip update upper values zfill bit_length'.split())
STATEMENTS = (
    ast.Global, ast.AsyncFunctionDef, ast.AsyncFor, ast.AsyncWith, ast.Await, ast.TryStar)


def nodes_of(kinds=ast.AST):
    for path in FILES:
        for node in ast.walk(ast.parse(path.read_text())):
            if isinstance(node, kinds):
                yield f'{path.name}:{getattr(node, "lineno", 0)}', node


class LanguageTest(unittest.TestCase):

    def test_the_folder_holds_plain_files_alone(self):
        self.assertIn('__init__.py', [path.name for path in FILES])
        found = [path for path in FOLDER.rglob('*') if '__pycache__' not in path.parts]
        for path in found:
            self.assertEqual(path.suffix, '.py', path)
            self.assertRegex(path.name, r'\A[a-z_0-9]+\.py\Z')

    def test_sizes_and_characters(self):
        for path in FILES:
            text = path.read_text()
            lines = text.split('\n')
            self.assertLessEqual(len(lines), 400, path)
            for line in lines:
                self.assertLessEqual(len(line), 120, line)
                self.assertTrue(all(' ' <= letter <= '~' for letter in line), line)
        for place, node in nodes_of(ast.FunctionDef):
            self.assertLessEqual(node.end_lineno - node.lineno + 1, 40, place)

    def test_imports(self):
        for place, node in nodes_of((ast.Import, ast.ImportFrom)):
            self.assertIsInstance(node, ast.ImportFrom, place)
            names = {name.name for name in node.names}
            if node.module in LIBRARY:
                self.assertLessEqual(names, LIBRARY[node.module], place)
                continue
            self.assertEqual((node.level, node.module.split('.')[0]), (0, 'seldomseen'), place)
            source = ast.parse((FOLDER / (node.module.split('.')[1] + '.py')).read_text())
            defined = {part.name for part in source.body if isinstance(part, (ast.FunctionDef, ast.ClassDef))}
            defined |= {part.targets[0].id for part in source.body if isinstance(part, ast.Assign)}
            self.assertLessEqual(names, defined, place)

    def test_no_two_files_import_each_other(self):
        ahead = {path.stem: set() for path in FILES}
        for place, node in nodes_of(ast.ImportFrom):
            if node.module not in LIBRARY:
                ahead[place.split('.')[0]].add(node.module.split('.')[1])
        while ahead:
            free = [name for name, others in ahead.items() if not others & set(ahead)]
            self.assertTrue(free, ahead)
            for name in free:
                del ahead[name]

    def test_builtins_and_names(self):
        known = set(vars(__import__('builtins')))
        for place, node in nodes_of():
            names = []
            if isinstance(node, ast.Name):
                names = [node.id]
                if isinstance(node.ctx, ast.Load) and node.id in known:
                    self.assertIn(node.id, BUILTINS, place)
                else:
                    self.assertNotIn(node.id, known, place)
            elif isinstance(node, ast.arg):
                names = [node.arg]
                self.assertNotIn(node.arg, known, place)
            elif isinstance(node, (ast.FunctionDef, ast.ClassDef)):
                names = [node.name]
            for name in names:
                self.assertNotIn(name, BARRED, place)
                self.assertTrue(name.isascii() and (not name.startswith('__') or name in DOUBLE), place)

    def test_values_and_statements(self):
        for place, node in nodes_of():
            self.assertNotIsInstance(node, STATEMENTS, place)
            if isinstance(node, ast.Constant):
                self.assertNotIsInstance(node.value, (float, complex), place)
                if isinstance(node.value, str):
                    self.assertNotIn('%', node.value, place)
            if isinstance(node, ast.BinOp):
                self.assertNotIsInstance(node.op, (ast.Div, ast.MatMult), place)
            if isinstance(node, ast.GeneratorExp):
                self.fail(f'{place}: a list is taken, since classes compare')
            if isinstance(node, ast.Attribute) and node.attr.startswith('__'):
                self.assertIn(node.attr, DOUBLE, place)

    def test_is_with_none_and_bools_alone(self):
        for place, node in nodes_of(ast.Compare):
            for sign, side in zip(node.ops, node.comparators):
                if isinstance(sign, (ast.Is, ast.IsNot)):
                    self.assertIsInstance(side, ast.Constant, place)
                    self.assertIn(side.value, (None, True, False), place)

    def test_sets_are_sorted_or_counted_on_the_spot(self):
        for path in FILES:
            tree = ast.parse(path.read_text())
            free = {id(part) for node in ast.walk(tree) if isinstance(node, ast.Call)
                    and isinstance(node.func, ast.Name) and node.func.id in ('sorted', 'len') for part in node.args}
            for node in ast.walk(tree):
                made = isinstance(node, ast.Call) and isinstance(node.func, ast.Name) and node.func.id == 'set'
                if made or isinstance(node, (ast.Set, ast.SetComp)):
                    self.assertIn(id(node), free, f'{path.name}:{node.lineno}')

    def test_methods(self):
        own = {node.name for _, node in nodes_of(ast.FunctionDef)}
        for place, node in nodes_of(ast.Call):
            if isinstance(node.func, ast.Attribute):
                self.assertIn(node.func.attr, METHODS | own, place)

    def test_properties_are_not_assigned_elsewhere(self):
        told = {node.name for _, node in nodes_of(ast.FunctionDef) if node.decorator_list}
        for place, node in nodes_of(ast.Attribute):
            if isinstance(node.ctx, ast.Store):
                self.assertNotIn(node.attr, told, place)

    def test_no_name_of_an_import_or_a_class_is_given_to_another_thing(self):
        for path in FILES:
            tree = ast.parse(path.read_text())
            known = {name.name for node in tree.body if isinstance(node, ast.ImportFrom) for name in node.names}
            known |= {node.name for node in tree.body if isinstance(node, ast.ClassDef)}
            for function in [node for node in ast.walk(tree) if isinstance(node, ast.FunctionDef)]:
                for node in ast.walk(function):
                    if isinstance(node, ast.arg):
                        self.assertNotIn(node.arg, known, f'{path.name}:{node.lineno}')
                    elif isinstance(node, ast.Name) and isinstance(node.ctx, ast.Store):
                        self.assertNotIn(node.id, known, f'{path.name}:{node.lineno}')
            bound = [name.name for node in tree.body if isinstance(node, ast.ImportFrom) for name in node.names]
            bound += [node.name for node in tree.body if isinstance(node, (ast.FunctionDef, ast.ClassDef))]
            bound += [node.targets[0].id for node in tree.body if isinstance(node, ast.Assign)]
            self.assertEqual(sorted(bound), sorted(set(bound)), path.name)

    def test_all_that_is_imported_is_used(self):
        for path in FILES:
            tree = ast.parse(path.read_text())
            used = {node.id for node in ast.walk(tree) if isinstance(node, ast.Name)}
            for node in tree.body:
                if isinstance(node, ast.ImportFrom):
                    for name in node.names:
                        self.assertIn(name.name, used, path.name)

    def test_no_function_is_left_unused(self):
        read = {node.id for _, node in nodes_of(ast.Name)} | {node.attr for _, node in nodes_of(ast.Attribute)}
        listed = {name for _, kind, names in LISTED for name in names} | {kind for _, kind, _ in LISTED}
        for place, node in nodes_of((ast.FunctionDef, ast.ClassDef)):
            if node.name not in listed | set(DOUBLE) and not place.startswith('errors.py'):
                self.assertIn(node.name, read, place)

    def test_stars_over_names_alone(self):
        for place, node in nodes_of(ast.Starred):
            self.assertIsInstance(node.value, ast.Name, place)

    def test_words_that_stand_nowhere(self):
        for place, node in nodes_of(ast.Constant):
            if isinstance(node.value, str):
                for word in ('dataclass', 'overload', 'contextmanager', '_wall'):
                    self.assertNotIn(word, node.value, place)

    def test_methods_and_attributes_have_different_names(self):
        methods = {node.name for _, holder in nodes_of(ast.ClassDef) for node in holder.body
                   if isinstance(node, ast.FunctionDef)}
        stored = {node.attr for _, node in nodes_of(ast.Attribute) if isinstance(node.ctx, ast.Store)}
        self.assertEqual(methods & stored, set())


if __name__ == '__main__':
    unittest.main()
