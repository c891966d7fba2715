"""Rules of LANGUAGE.md that can be seen in the text of the files; the number of the rule stands in each name."""

import ast
import pathlib
import unittest
import warnings

PACKAGE = pathlib.Path(__file__).resolve().parent.parent / "chainpacks"
LIBRARY = {
    "heapq": {"heappush", "heappop", "heapify", "heapreplace", "heappushpop"},
    "math": {"gcd", "lcm", "isqrt", "comb", "perm", "factorial"},
    "itertools": {"product", "combinations", "permutations", "chain", "accumulate", "pairwise", "islice", "zip_longest"},
    "collections": {"defaultdict", "deque"},
    "__future__": {"annotations"},
}
BUILTINS = set(
    "len range enumerate zip min max sum abs sorted reversed int str bool bytes list tuple dict set frozenset isinstance ord"
    " repr any all divmod pow getattr hasattr setattr iter next map type property staticmethod classmethod super object float"
    " Exception ValueError TypeError KeyError IndexError LookupError ZeroDivisionError ArithmeticError OverflowError"
    " RuntimeError NotImplementedError AttributeError StopIteration NotImplemented".split()
)
DECORATORS = {"property", "staticmethod", "classmethod", "setter"}
METHODS = set(
    "append clear copy count endswith extend find get index insert isalnum isalpha isdigit islower isspace isupper items join"
    " keys ljust lower lstrip partition pop remove replace reverse rfind rjust rpartition rsplit rstrip setdefault split"
    " splitlines startswith strip update upper values zfill bit_length title capitalize swapcase casefold center expandtabs"
    " removeprefix removesuffix rindex isascii isdecimal isnumeric istitle isidentifier isprintable sort appendleft popleft"
    " rotate from_iterable add discard format".split()
)
BARRED = (ast.AsyncFunctionDef, ast.AsyncFor, ast.AsyncWith, ast.Await, ast.Div, ast.MatMult)


def files():
    """The files of the package."""
    return sorted(PACKAGE.rglob("*.py"))


def trees():
    """Each file with its tree."""
    return [(path, ast.parse(path.read_text("utf-8"))) for path in files()]


def walk(kinds):
    """Each node of some kinds, with the file and the line."""
    for path, tree in trees():
        for node in ast.walk(tree):
            if isinstance(node, kinds):
                yield f"{path.relative_to(PACKAGE)}:{getattr(node, 'lineno', 0)}", node


def own_names():
    """All names of functions, methods and classes of the package."""
    return {node.name for _, node in walk((ast.FunctionDef, ast.ClassDef))}


class TestFiles(unittest.TestCase):
    def test_l1_nothing_but_plain_files(self):
        for path in PACKAGE.rglob("*"):
            if "__pycache__" in path.parts:
                continue
            self.assertTrue(path.is_dir() or path.suffix == ".py", path)
            self.assertEqual(path.name, path.name.lower())

    def test_l14_each_folder_has_its_init(self):
        folders = {path.parent for path in files()}
        for folder in folders:
            self.assertTrue((folder / "__init__.py").is_file(), folder)
        self.assertLessEqual(len(files()), 100)

    def test_l10_and_l14_lines(self):
        for path in files():
            text = path.read_text("utf-8")
            self.assertTrue(all(sign == "\n" or " " <= sign <= "~" for sign in text), path)
            lines = text.split("\n")
            self.assertLessEqual(len(lines) - 1, 399, path)
            for at, line in enumerate(lines, start=1):
                self.assertLessEqual(len(line), 120, f"{path}:{at}")

    def test_l10_functions(self):
        for place, node in walk(ast.FunctionDef):
            self.assertLessEqual(node.end_lineno - node.lineno + 1, 40, place)

    def test_l27_no_warnings(self):
        for path in files():
            with warnings.catch_warnings():
                warnings.simplefilter("error")
                compile(path.read_text("utf-8"), str(path), "exec")


class TestImports(unittest.TestCase):
    def test_l2_and_l16_imports(self):
        self.assertEqual([place for place, _ in walk(ast.Import)], [])
        for place, node in walk(ast.ImportFrom):
            names = {alias.name for alias in node.names}
            self.assertEqual(node.level, 0, place)
            self.assertTrue(all(alias.asname is None for alias in node.names), place)
            if node.module in LIBRARY:
                self.assertLessEqual(names, LIBRARY[node.module], place)
            else:
                self.assertTrue(self.defines(node.module, names), place)

    def test_each_import_is_used_and_no_variable_has_its_name(self):
        for path, tree in trees():
            names = {alias.name for node in tree.body if isinstance(node, ast.ImportFrom) for alias in node.names}
            read = {node.id for node in ast.walk(tree) if isinstance(node, ast.Name) and isinstance(node.ctx, ast.Load)}
            stored = {node.id for node in ast.walk(tree) if isinstance(node, ast.Name) and isinstance(node.ctx, ast.Store)}
            stored |= {node.arg for node in ast.walk(tree) if isinstance(node, ast.arg)}
            self.assertEqual(names - read - {"annotations"}, set(), path)
            self.assertEqual(names & stored, set(), path)

    def defines(self, module, names):
        path = PACKAGE.parent.joinpath(*module.split(".")).with_suffix(".py")
        return module.split(".")[0] == "chainpacks" and path.is_file() and names <= bound_names(path)

    def test_l16_no_circles(self):
        needed = {}
        for path, tree in trees():
            module = ".".join(path.relative_to(PACKAGE.parent).with_suffix("").parts)
            needed[module] = {node.module for node in ast.walk(tree) if isinstance(node, ast.ImportFrom)}
        while needed:
            free = [module for module in needed if not needed[module] & set(needed)]
            self.assertTrue(free, needed)
            for module in free:
                del needed[module]


def bound_names(path):
    """The names that a file itself defines or assigns at module level."""
    found = set()
    for node in ast.parse(path.read_text("utf-8")).body:
        if isinstance(node, (ast.FunctionDef, ast.ClassDef)):
            found.add(node.name)
        elif isinstance(node, ast.Assign):
            found.update(target.id for target in node.targets)
    return found


class TestCode(unittest.TestCase):
    def test_l3_module_level(self):
        for path, tree in trees():
            for node in tree.body:
                plain = (ast.ImportFrom, ast.FunctionDef, ast.ClassDef)
                words = isinstance(node, ast.Expr) and isinstance(node.value, ast.Constant)
                value = isinstance(node, ast.Assign) and isinstance(node.targets[0], ast.Name)
                self.assertTrue(isinstance(node, plain) or words or value, f"{path}:{node.lineno}")

    def test_l6_and_l7_no_barred_kinds(self):
        self.assertEqual([place for place, _ in walk(BARRED)], [])
        for place, node in walk(ast.Constant):
            self.assertNotIsInstance(node.value, (float, complex), place)

    def test_l4_decorators(self):
        for place, node in walk((ast.FunctionDef, ast.ClassDef)):
            for mark in node.decorator_list:
                name = mark.attr if isinstance(mark, ast.Attribute) else mark.id
                self.assertIn(name, DECORATORS, place)

    def test_l8_and_l15_builtins(self):
        builtin = set(dir(__builtins__)) if not isinstance(__builtins__, dict) else set(__builtins__)
        for place, node in walk(ast.Name):
            if node.id in builtin:
                self.assertIn(node.id, BUILTINS, place)
                self.assertIsInstance(node.ctx, ast.Load, place)
        for place, node in walk(ast.arg):
            self.assertNotIn(node.arg, builtin, place)

    def test_l25_methods(self):
        known = METHODS | own_names()
        for place, node in walk(ast.Call):
            if isinstance(node.func, ast.Attribute):
                self.assertIn(node.func.attr, known, place)

    def test_l24_no_loop_over_a_set(self):
        for place, node in walk((ast.For, ast.comprehension)):
            self.assertNotIsInstance(node.iter, (ast.Set, ast.SetComp), place)

    def test_l7_lists_instead_of_generator_expressions(self):
        self.assertEqual([place for place, _ in walk(ast.GeneratorExp)], [])

    def test_l19_errors_that_are_caught(self):
        for place, node in walk(ast.ExceptHandler):
            self.assertIsNotNone(node.type, place)
            told = ast.dump(node.type)
            for name in ("Exception", "TypeError", "ArithmeticError", "OverflowError", "RuntimeError", "AttributeError"):
                self.assertNotIn(f"'{name}'", told, place)

    def test_l20_is(self):
        for place, node in walk(ast.Compare):
            for sign, right in zip(node.ops, node.comparators):
                if isinstance(sign, (ast.Is, ast.IsNot)):
                    left_self = isinstance(node.left, ast.Name) and node.left.id == "self"
                    plain = isinstance(right, ast.Constant) and (right.value is None or isinstance(right.value, bool))
                    self.assertTrue(plain or left_self, place)

    def test_l27_exponents_and_strings(self):
        for place, node in walk(ast.BinOp):
            if isinstance(node.op, ast.Pow) and isinstance(node.right, ast.Constant):
                self.assertIn(node.right.value, range(65), place)
        for path, tree in trees():
            words = {id(node.value) for node in ast.walk(tree) if isinstance(node, ast.Expr)}
            for node in ast.walk(tree):
                if isinstance(node, ast.Constant) and isinstance(node.value, str) and id(node) not in words:
                    self.assertNotIn("%", node.value, path)


class TestClasses(unittest.TestCase):
    """Rules L5, L18, L23, L25 and L26, as far as the classes of the package need them."""

    def members(self, kind):
        return [node for node in kind.body if isinstance(node, ast.FunctionDef)]

    def marked(self, word):
        """The names of the functions in classes with this decorator."""
        found = set()
        for _, kind in walk(ast.ClassDef):
            for node in self.members(kind):
                if any(isinstance(mark, ast.Name) and mark.id == word for mark in node.decorator_list):
                    found.add(node.name)
        return found

    def test_l5_iteration_and_length(self):
        for place, kind in walk(ast.ClassDef):
            told = {node.name: node for node in self.members(kind)}
            if "__getitem__" in told:
                self.assertIn("__iter__", told, place)
            if "__iter__" in told:
                self.assertRegex(ast.unparse(told["__iter__"].body[-1]), r"^return iter\(self\.\w+\)$", place)
            if "__len__" in told:
                self.assertRegex(ast.unparse(told["__len__"].body[-1]), r"^return len\(self\.\w+\)$", place)
            if "__str__" in told:
                self.assertIsInstance(told["__str__"].body[-1].value, ast.JoinedStr, place)

    def test_l5_names_of_properties(self):
        properties, plain = self.marked("property"), set()
        for _, kind in walk(ast.ClassDef):
            plain.update(node.name for node in self.members(kind) if not node.decorator_list)
        self.assertEqual(properties & plain, set())
        self.assertEqual(properties & self.marked("classmethod"), set())
        for kind in (str, int, list, dict, set, bytes):
            self.assertEqual({name for name in properties if hasattr(kind, name)}, set())

    def test_l18_no_name_is_a_method_and_an_attribute(self):
        methods = {node.name for _, kind in walk(ast.ClassDef) for node in self.members(kind)}
        stored = {node.attr for _, node in walk(ast.Attribute) if isinstance(node.ctx, ast.Store)}
        self.assertEqual(methods & stored, set())

    def test_l5_no_property_is_assigned(self):
        stored = {node.attr for _, node in walk(ast.Attribute) if isinstance(node.ctx, ast.Store)}
        self.assertEqual(stored & self.marked("property"), set())

    def test_l5_plain_sums(self):
        # Beside operators `+=` and its kind are allowed in few places; here there are none.
        self.assertEqual([place for place, _ in walk(ast.AugAssign)], [])

    def test_l23_names_of_generators(self):
        names = [node.name for _, node in walk(ast.FunctionDef)]
        for place, node in walk(ast.FunctionDef):
            if any(isinstance(each, (ast.Yield, ast.YieldFrom)) for each in ast.walk(node)):
                self.assertEqual(names.count(node.name), 1, place)

    def test_l25_no_sort_of_lists(self):
        calls = [node.func.attr for _, node in walk(ast.Call) if isinstance(node.func, ast.Attribute)]
        self.assertNotIn("sort", calls)
        self.assertEqual([place for place, _ in walk(ast.Match)], [])

    def test_l19_only_errors_of_the_package_are_caught(self):
        own = {node.name for node in ast.parse((PACKAGE / "errors.py").read_text("utf-8")).body if isinstance(node, ast.ClassDef)}
        for place, node in walk(ast.Try):
            self.assertEqual(node.finalbody, [], place)
        for place, node in walk(ast.ExceptHandler):
            self.assertIn(node.type.id, own, place)

    def test_l6_blocks_and_their_ends(self):
        for place, node in walk(ast.With):
            self.assertEqual([ast.unparse(item.context_expr) for item in node.items], ["self.trial()"], place)
        for place, node in walk(ast.FunctionDef):
            if node.name == "__exit__":
                self.assertEqual(ast.unparse(node.args), "self, kind, value, trace", place)
                first, *rest = [ast.unparse(row) for row in node.body]
                self.assertEqual(first, "bench = self._bench", place)
                for row in rest:
                    self.assertRegex(row, r"^bench\.(\w+) = self\.\1$", place)

    def test_l3_tables_of_functions(self):
        for path, tree in trees():
            tables = {node.targets[0].id for node in tree.body if isinstance(node, ast.Assign) and isinstance(node.value, ast.Dict)}
            for node in ast.walk(tree):
                if isinstance(node, ast.Call) and isinstance(node.func, ast.Subscript):
                    self.fail(f"{path}:{node.lineno} calls what stands in a table, without a name for it")
                if isinstance(node, ast.Subscript) and isinstance(node.value, ast.Name) and node.value.id in tables:
                    self.assertIsInstance(node.ctx, ast.Load, path)

    def test_l2_no_products_beside_iteration(self):
        for place, node in walk(ast.ImportFrom):
            self.assertNotEqual(node.module, "itertools", place)

    def test_l7_stars_stand_before_plain_names(self):
        for place, node in walk(ast.Starred):
            self.assertIsInstance(node.value, ast.Name, place)

    def test_l17_words_that_stand_nowhere(self):
        for path in files():
            text = path.read_text("utf-8")
            for word in ("(type)", "Meta", "metaclass=", "_wall"):
                self.assertNotIn(word, text, path)


if __name__ == "__main__":
    unittest.main()
