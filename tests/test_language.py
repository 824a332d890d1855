"""Those rules of LANGUAGE.md that can be told from the code alone; their numbers stand in the names of the tests."""

import ast
import builtins
import pathlib
import re
import unittest

FOLDER = pathlib.Path(__file__).resolve().parent.parent / "loopstore"
BUILTINS = set(
    "len range enumerate zip min max sum abs sorted reversed int str bool bytes list tuple dict set frozenset isinstance "
    "ord repr any all divmod pow getattr hasattr setattr map iter next Exception ValueError TypeError KeyError IndexError "
    "LookupError ZeroDivisionError ArithmeticError OverflowError RuntimeError NotImplementedError AttributeError "
    "StopIteration NotImplemented".split())
METHODS = set(
    "append clear copy count endswith extend find get index insert isalnum isalpha isdigit islower isspace isupper items "
    "join keys ljust lower lstrip partition pop remove replace reverse rfind rjust rpartition rsplit rstrip setdefault "
    "split splitlines startswith strip update upper values zfill bit_length add discard".split())
LIBRARY = {"heapq": ("heappush", "heappop"), "math": ("gcd",), "itertools": ("permutations", "combinations", "product")}
STATEMENTS = (
    ast.Assign, ast.AugAssign, ast.AnnAssign, ast.If, ast.While, ast.For, ast.Return, ast.Break, ast.Continue, ast.Pass,
    ast.Raise, ast.Assert, ast.Delete, ast.Expr, ast.FunctionDef, ast.ClassDef, ast.ImportFrom, ast.Try)
# Some of these are let in certain places; the package does without them, so that no place has to be judged.
BARRED = (
    ast.GeneratorExp, ast.Set, ast.SetComp, ast.Div, ast.Global, ast.Nonlocal, ast.AsyncFunctionDef, ast.Await,
    ast.AsyncFor, ast.AsyncWith, ast.ExceptHandler, ast.With, ast.NamedExpr, ast.Match)
WORDS = re.compile(
    r"\b(register|mro|elements|open|input|law|type|typing|enum|Enum|Flag|Generic|Protocol|ABC|namedtuple|dataclass|"
    r"eval|exec|exit|globals|locals|vars|dir|id|gc|os|sys|super|compile|_wall|_WallAttr)\b")


def names_bound(tree):
    for node in ast.walk(tree):
        if isinstance(node, ast.Name) and isinstance(node.ctx, ast.Store):
            yield node.id
        elif isinstance(node, ast.arg):
            yield node.arg
        elif isinstance(node, (ast.FunctionDef, ast.ClassDef)):
            yield node.name


class LanguageTest(unittest.TestCase):
    @classmethod
    def setUpClass(cls):
        cls.texts = {path: path.read_text("utf-8") for path in sorted(FOLDER.glob("*.py"))}
        cls.trees = {path: ast.parse(text) for path, text in cls.texts.items()}

    def nodes(self, *kinds):
        for path, tree in self.trees.items():
            for node in ast.walk(tree):
                if isinstance(node, kinds):
                    yield f"{path.name}:{getattr(node, 'lineno', 0)}", node

    def test_l1_l14_the_folder_holds_plain_files_alone(self):
        for path in FOLDER.iterdir():
            if path.name != "__pycache__":
                self.assertRegex(path.name, r"^[a-z][a-z0-9_]*\.py$|^__init__\.py$")
        self.assertIn(FOLDER / "__init__.py", self.texts)

    def test_l2_l16_imports_are_from_files_of_the_package(self):
        for place, node in self.nodes(ast.Import, ast.ImportFrom):
            with self.subTest(place):
                self.assertIsInstance(node, ast.ImportFrom)
                self.assertEqual(node.level, 0)
                if node.module in LIBRARY:
                    for alias in node.names:
                        self.assertIn(alias.name, LIBRARY[node.module])
                        self.assertIsNone(alias.asname)
                    continue
                self.assertTrue(node.module.startswith("loopstore."))
                tree = self.trees[FOLDER / (node.module.partition(".")[2] + ".py")]
                defined = {name for part in tree.body if not isinstance(part, ast.ImportFrom) for name in names_bound(part)}
                for alias in node.names:
                    self.assertIn(alias.name, defined)
                    self.assertIsNone(alias.asname)

    def test_l2_the_library_is_called_by_its_bare_names(self):
        for path, tree in self.trees.items():
            taken = [alias.name for node in tree.body if isinstance(node, ast.ImportFrom) and node.module in LIBRARY
                     for alias in node.names]
            called = [node.func for node in ast.walk(tree) if isinstance(node, ast.Call)]
            for node in ast.walk(tree):
                if isinstance(node, ast.Name) and node.id in taken:
                    self.assertIn(node, called, path.name)

    def test_l2_all_imports_are_used(self):
        for path, tree in self.trees.items():
            read = {node.id for node in ast.walk(tree) if isinstance(node, ast.Name)}
            for node in tree.body:
                if isinstance(node, ast.ImportFrom):
                    for alias in node.names:
                        self.assertIn(alias.name, read, path.name)

    def test_l3_module_level_holds_definitions_and_plain_values(self):
        for path, tree in self.trees.items():
            above = []
            for node in tree.body:
                with self.subTest(f"{path.name}:{node.lineno}"):
                    self.assertIsInstance(node, (ast.Expr, ast.ImportFrom, ast.FunctionDef, ast.ClassDef, ast.Assign))
                    if isinstance(node, (ast.Expr, ast.Assign)):
                        value = node.value
                        if isinstance(value, ast.Dict):
                            # Functions that are defined above may be values of a dict.
                            plain = [part for part in value.values if getattr(part, "id", None) not in above]
                            value = ast.Tuple([*value.keys, *plain], ast.Load())
                        ast.literal_eval(value)
                    if isinstance(node, ast.FunctionDef):
                        above.append(node.name)

    def test_l15_lists_and_dicts_of_modules_are_only_read(self):
        for path, tree in self.trees.items():
            kept = [node.targets[0].id for node in tree.body
                    if isinstance(node, ast.Assign) and isinstance(node.value, (ast.Dict, ast.List))]
            read = [part for node in ast.walk(tree) for part in (
                [node.value] if isinstance(node, (ast.Subscript, ast.Attribute)) and isinstance(node.ctx, ast.Load) else [])]
            for node in ast.walk(tree):
                if isinstance(node, ast.Name) and node.id in kept and isinstance(node.ctx, ast.Load):
                    self.assertIn(node, read, f"{path.name}:{node.lineno}")

    def test_l4_l6_l7_statements_and_expressions(self):
        for place, node in self.nodes(ast.stmt):
            with self.subTest(place):
                self.assertIsInstance(node, STATEMENTS)
        for place, node in self.nodes(*BARRED):
            self.fail(f"{place}: {type(node).__name__}")
        for place, node in self.nodes(ast.FunctionDef, ast.ClassDef):
            self.assertEqual(node.decorator_list, [], place)
        for place, node in self.nodes(ast.AnnAssign, ast.arg):
            self.assertIsNone(node.annotation, place)
        for place, node in self.nodes(ast.Constant):
            self.assertNotIsInstance(node.value, (float, complex), place)

    def test_l5_l28_classes_hold_methods_alone(self):
        for place, node in self.nodes(ast.ClassDef):
            with self.subTest(place):
                self.assertIn([base.id for base in node.bases], ([], ["ValueError"], ["LoopError"]))
                self.assertEqual(node.keywords, [])
                for part in node.body:
                    self.assertTrue(isinstance(part, ast.FunctionDef) or ast.get_docstring(node) and part is node.body[0])
                    if isinstance(part, ast.FunctionDef):
                        self.assertEqual(part.args.args[0].arg, "self")

    def test_l4_parameters_are_plain(self):
        for place, node in self.nodes(ast.arguments):
            self.assertEqual((node.vararg, node.kwarg, node.kwonlyargs, node.posonlyargs, node.defaults), (None, None, [], [], []))

    def test_l17_words_that_stand_in_no_string(self):
        docstrings = [ast.get_docstring(node, False) for _, node in self.nodes(ast.Module, ast.FunctionDef, ast.ClassDef)]
        for place, node in self.nodes(ast.Constant):
            if isinstance(node.value, str) and node.value not in docstrings:
                self.assertNotRegex(node.value, r"\b(type|typing|enum|Enum|Flag|Generic|Protocol|ABC|namedtuple)\b", place)
                self.assertNotRegex(node.value, r"dataclass|overload|contextmanager|__|\._$", place)

    def test_l18_attributes_are_assigned_through_local_names(self):
        assigned = {node.name for _, node in self.nodes(ast.FunctionDef)}
        for place, node in self.nodes(ast.Attribute):
            if isinstance(node.ctx, ast.Store):
                self.assertIsInstance(node.value, ast.Name, place)
                assigned.add(node.attr)
        for place, node in self.nodes(ast.Attribute):
            self.assertIn(node.attr, assigned | METHODS, place)

    def test_l19_errors_are_made_where_they_are_raised(self):
        errors = {node.name for node in self.trees[FOLDER / "errors.py"].body if isinstance(node, ast.ClassDef)}
        for place, node in self.nodes(ast.Raise):
            self.assertIsInstance(node.exc, ast.Call, place)
            self.assertIn(node.exc.func.id, errors, place)
            self.assertIsNone(node.cause, place)

    def test_l22_isinstance_names_its_classes(self):
        own = {node.name for _, node in self.nodes(ast.ClassDef)}
        for place, node in self.nodes(ast.Call):
            if isinstance(node.func, ast.Name) and node.func.id == "isinstance":
                kinds = node.args[1].elts if isinstance(node.args[1], ast.Tuple) else [node.args[1]]
                for kind in kinds:
                    self.assertIn(kind.id, own | {"int", "str", "bool", "list", "tuple", "dict"}, place)

    def test_l23_no_generator_shares_its_name(self):
        names = [node.name for _, node in self.nodes(ast.FunctionDef)]
        for place, node in self.nodes(ast.FunctionDef):
            if [part for part in ast.walk(node) if isinstance(part, (ast.Yield, ast.YieldFrom))]:
                self.assertEqual(names.count(node.name), 1, place)

    def test_l26_attributes_have_no_names_of_builtin_values(self):
        taken = {name for kind in (str, int, list, dict, set, bytes, tuple) for name in dir(kind)}
        for place, node in self.nodes(ast.Attribute):
            if isinstance(node.ctx, ast.Store):
                self.assertNotIn(node.attr, taken, place)
        for place, node in self.nodes(ast.ClassDef):
            for part in node.body:
                if isinstance(part, ast.FunctionDef) and not part.name.startswith("__"):
                    self.assertNotIn(part.name, taken - {"copy"}, place)

    def test_l6_finally_puts_names_and_attributes_back_alone(self):
        for place, node in self.nodes(ast.Try):
            with self.subTest(place):
                self.assertEqual(node.orelse, [])
                for row in node.finalbody:
                    self.assertIsInstance(row, ast.Assign)
                    for part in ast.walk(row):
                        self.assertIsInstance(part, (ast.Assign, ast.Tuple, ast.Attribute, ast.Name, ast.expr_context))

    def test_l13_lambdas_stand_on_lines_of_their_own(self):
        places = [place for place, _ in self.nodes(ast.Lambda)]
        self.assertEqual(len(places), len(set(places)))

    def test_l16_no_two_files_import_each_other(self):
        ahead = {}
        for path, tree in self.trees.items():
            modules = [node.module for node in tree.body if isinstance(node, ast.ImportFrom)]
            ahead[path.stem] = {module.partition(".")[2] for module in modules if module.startswith("loopstore.")}
        while ahead:
            free = [name for name in ahead if not ahead[name]]
            self.assertTrue(free, sorted(ahead))
            for name in free:
                del ahead[name]
            ahead = {name: needed - set(free) for name, needed in ahead.items()}

    def test_l18_no_name_is_a_method_and_an_attribute_of_one_class(self):
        for place, node in self.nodes(ast.ClassDef):
            methods = [part.name for part in node.body if isinstance(part, ast.FunctionDef)]
            self.assertEqual(len(methods), len(set(methods)), place)
            for part in ast.walk(node):
                if isinstance(part, ast.Attribute) and isinstance(part.ctx, ast.Store):
                    self.assertNotIn(part.attr, methods, place)

    def test_l23_what_is_iterated_is_iterated_at_once(self):
        lazy = ("zip", "enumerate", "reversed", "range", "items", "keys", "values", "map", "permutations", "combinations")
        taking = ("list", "tuple", "dict", "sorted", "sum", "any", "all", "enumerate", "zip", "len", "reversed", "min", "max",
                  "permutations", "combinations")
        allowed = []
        for _, node in self.nodes(ast.For, ast.comprehension):
            allowed.append(node.iter)
        for _, node in self.nodes(ast.Call):
            if isinstance(node.func, ast.Name) and node.func.id in taking:
                allowed.extend(node.args[:1] if node.func.id != "zip" else node.args)
            if isinstance(node.func, ast.Attribute) and node.func.attr == "join":
                allowed.extend(node.args)
        for place, node in self.nodes(ast.Compare):
            if isinstance(node.ops[0], (ast.In, ast.NotIn)):
                allowed.extend(node.comparators)
        for place, node in self.nodes(ast.Call):
            name = node.func.id if isinstance(node.func, ast.Name) else getattr(node.func, "attr", None)
            if name in lazy and not (name == "range" and node in self.ranges_kept()):
                self.assertIn(node, allowed, place)

    def ranges_kept(self):
        return [node.value for _, node in self.nodes(ast.Assign)]

    def test_l8_only_told_builtins_and_none_renamed(self):
        for place, node in self.nodes(ast.Name):
            with self.subTest(place):
                if hasattr(builtins, node.id):
                    self.assertIn(node.id, BUILTINS)
                    self.assertIsInstance(node.ctx, ast.Load)
        for tree in self.trees.values():
            for name in names_bound(tree):
                self.assertFalse(hasattr(builtins, name) and not name.startswith("__"), name)

    def test_l10_sizes(self):
        for path, text in self.texts.items():
            rows = text.split("\n")
            self.assertLessEqual(len(rows), 399, path.name)
            for at, row in enumerate(rows, 1):
                self.assertLessEqual(len(row), 120, f"{path.name}:{at}")
        for place, node in self.nodes(ast.FunctionDef):
            self.assertLessEqual(node.end_lineno - node.lineno + 1, 40, place)

    def test_l14_l27_characters(self):
        for path, text in self.texts.items():
            self.assertTrue(all(" " <= sign <= "~" or sign == "\n" for sign in text), path.name)
        for place, node in self.nodes(ast.Constant):
            self.assertNotIn("%", str(node.value), place)

    def test_l12_l17_names(self):
        for tree in self.trees.values():
            for name in names_bound(tree):
                self.assertRegex(name, r"^(_|_?[A-Za-z][A-Za-z0-9_]*|__[a-z]+__)$")
                self.assertIsNone(WORDS.search(name), name)
        for place, node in self.nodes(ast.Attribute):
            self.assertIsNone(WORDS.search(node.attr), place)
        for place, node in self.nodes(ast.Name):
            if isinstance(node.ctx, ast.Load):
                self.assertNotEqual(node.id, "_", place)

    def test_l15_no_local_name_is_that_of_an_import_or_a_class(self):
        for path, tree in self.trees.items():
            taken = {alias.name for node in tree.body if isinstance(node, ast.ImportFrom) for alias in node.names}
            taken |= {node.name for node in tree.body if isinstance(node, ast.ClassDef)}
            top = [name for node in tree.body for name in ([node.name] if hasattr(node, "name") else [])]
            self.assertEqual(len(top), len(set(top)), path.name)
            for function in [node for node in ast.walk(tree) if isinstance(node, ast.FunctionDef)]:
                bound = {name for part in [function.args, *function.body] for name in names_bound(part)}
                self.assertFalse(bound & taken, f"{path.name}: {function.name}")

    def test_l20_is_stands_beside_none(self):
        for place, node in self.nodes(ast.Compare):
            for operator, other in zip(node.ops, node.comparators):
                if isinstance(operator, (ast.Is, ast.IsNot)):
                    self.assertIsInstance(other, ast.Constant, place)

    def test_l22_keywords(self):
        for place, node in self.nodes(ast.keyword):
            self.assertIn(node.arg, ("key", "reverse", "start", "default"), place)

    def test_l23_generators_are_called_with_plain_arguments(self):
        own = {node.name for _, node in self.nodes(ast.FunctionDef)
               if [part for part in ast.walk(node) if isinstance(part, (ast.Yield, ast.YieldFrom))]}
        for place, node in self.nodes(ast.Call):
            if isinstance(node.func, (ast.Name, ast.Attribute)):
                if (node.func.id if isinstance(node.func, ast.Name) else node.func.attr) in own:
                    for arg in node.args:
                        self.assertIsInstance(arg, (ast.Name, ast.Attribute, ast.Constant), place)

    def test_l24_sets_are_made_in_len_and_sorted_alone(self):
        made = [node for _, node in self.nodes(ast.Call) if isinstance(node.func, ast.Name) and node.func.id == "set"]
        for _, node in self.nodes(ast.Call):
            if isinstance(node.func, ast.Name) and node.func.id in ("len", "sorted"):
                made = [call for call in made if call not in node.args]
        self.assertEqual(made, [])

    def test_l25_methods(self):
        own = {node.name for _, node in self.nodes(ast.FunctionDef)}
        for place, node in self.nodes(ast.Call):
            if isinstance(node.func, ast.Attribute):
                self.assertIn(node.func.attr, METHODS | own, place)

    def test_l27_exponents_are_literals(self):
        for place, node in self.nodes(ast.BinOp):
            if isinstance(node.op, ast.Pow):
                self.assertIsInstance(node.right, ast.Constant, place)

    def test_l28_double_underscore_methods(self):
        for place, node in self.nodes(ast.FunctionDef):
            if node.name.startswith("__"):
                self.assertIn(node.name, ("__init__", "__eq__", "__repr__", "__str__", "__len__"), place)
            if node.name == "__init__":
                self.assertFalse([part for part in ast.walk(node) if isinstance(part, ast.Return)], place)


if __name__ == "__main__":
    unittest.main()
