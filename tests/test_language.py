"""Those rules of LANGUAGE.md that can be seen line by line or name by name."""

import ast
import pathlib
import re
import unittest
import warnings

PACKAGE = pathlib.Path(__file__).resolve().parent.parent / "emptypulls"
LIBRARY = {"heapq": {"heappush", "heappop", "heapify", "heapreplace", "heappushpop"},
           "math": {"gcd", "lcm", "isqrt", "comb", "perm", "factorial"},
           "collections": {"defaultdict"}}
BUILTINS = set("""len range enumerate zip min max sum abs sorted reversed int str bool list tuple dict set isinstance
    ord repr any all divmod pow getattr hasattr setattr iter next map Exception ValueError TypeError KeyError
    IndexError LookupError ZeroDivisionError ArithmeticError OverflowError RuntimeError NotImplementedError
    AttributeError StopIteration NotImplemented property staticmethod classmethod super object""".split())
METHODS = set("""append clear copy count endswith extend find get index insert isalnum isalpha isdigit islower isspace
    isupper items join keys ljust lower lstrip partition pop remove replace reverse rfind rjust rpartition rsplit
    rstrip setdefault split splitlines startswith strip update upper values zfill bit_length title capitalize
    swapcase casefold center expandtabs removeprefix removesuffix rindex isascii isdecimal isnumeric istitle
    isidentifier isprintable translate add discard sort format""".split())
UNUSED = set("""register mro elements open input law version_info with_traceback add_note type typing
    typing_extensions enum Enum IntEnum StrEnum Flag IntFlag Generic Protocol ABC ABCMeta namedtuple NamedTuple
    TypedDict TYPE_CHECKING abstractmethod dataclass overload contextmanager eval exec vars globals locals id dir
    compile os quit exit help license gc builtins importlib copyright credits""".split())
BARRED = (ast.Global, ast.AsyncFunctionDef, ast.Await, ast.AsyncFor, ast.AsyncWith, ast.Div, ast.Import)
SPECIAL = set("""init eq repr str len enter exit call iter lt le gt ge ne add sub mul floordiv mod pow and or xor
    lshift rshift radd rsub rmul rfloordiv rmod rand ror rxor rlshift rrshift iadd isub imul ifloordiv imod ipow
    iand ior ixor ilshift irshift neg pos invert abs bool contains getitem setitem slots""".split())
DECORATORS = {"property", "staticmethod", "classmethod"}


def files():
    return sorted(path for path in PACKAGE.rglob("*") if path.is_file() and "__pycache__" not in path.parts)


def trees():
    for path in files():
        yield path, ast.parse(path.read_text(encoding="utf-8"))


def nodes(*kinds):
    for path, tree in trees():
        for node in ast.walk(tree):
            if isinstance(node, kinds):
                yield path.name, node


def called_name(node):
    return node.func.id if isinstance(node, ast.Call) and isinstance(node.func, ast.Name) else ""


def is_plain(node):
    """Whether an expression surely is a number or a string."""
    if isinstance(node, ast.BinOp):
        return is_plain(node.left) and is_plain(node.right)
    return isinstance(node, (ast.Constant, ast.JoinedStr)) or called_name(node) in ("len", "int", "ord", "str", "repr")


def assigned_attributes():
    return {node.attr for _, node in nodes(ast.Attribute) if isinstance(node.ctx, ast.Store)}


def functions_with(*kinds):
    """The names of the functions that have nodes of these kinds directly, not in a nested function."""
    return {node.name for _, node in nodes(ast.FunctionDef) if any(isinstance(part, kinds) for part in ast.walk(node))}


def position(name, node):
    return name, node.lineno, node.col_offset, node.end_col_offset


def docstrings():
    found = set()
    for _, node in nodes(ast.Module, ast.ClassDef, ast.FunctionDef):
        if ast.get_docstring(node) is not None:
            found.add(node.body[0].value.value)
    return found


class FilesTest(unittest.TestCase):
    def test_only_plain_python_files(self):
        self.assertTrue(files())
        self.assertLessEqual(len(files()), 100)
        for path in files():
            self.assertRegex(path.name, r"^[a-z_][a-z0-9_]*\.py$")
            self.assertTrue((path.parent / "__init__.py").exists())
        self.assertIn(PACKAGE / "__init__.py", files())

    def test_lines_and_characters(self):
        for path in files():
            text = path.read_text(encoding="utf-8")
            self.assertTrue(all(sign == "\n" or " " <= sign <= "~" for sign in text), path)
            self.assertLessEqual(len(text.splitlines()), 399, path)
            for line in text.splitlines():
                self.assertLessEqual(len(line), 120, f"{path}: {line}")

    def test_python_gives_no_warning(self):
        for path in files():
            with warnings.catch_warnings():
                warnings.simplefilter("error")
                compile(path.read_text(encoding="utf-8"), str(path), "exec")

    def test_functions_are_small(self):
        for name, node in nodes(ast.FunctionDef):
            self.assertLessEqual(node.end_lineno - node.lineno + 1, 40, f"{name}: {node.name}")

    def test_imports(self):
        found = {}
        for path, tree in trees():
            for node in ast.walk(tree):
                if isinstance(node, ast.ImportFrom):
                    self.assertIn(node, tree.body)
                    self.assertEqual(node.level, 0)
                    names = {alias.name for alias in node.names}
                    self.assertNotIn("*", names)
                    if node.module.split(".")[0] == "emptypulls":
                        found.setdefault(path.stem, []).append(node.module.split(".")[-1])
                    else:
                        self.assertLessEqual(names, LIBRARY.get(node.module, set()), path)
        self.assert_no_ring(found)

    def assert_no_ring(self, found):
        done = []
        while len(done) < len(files()):
            free = [path.stem for path in files()
                    if path.stem not in done and set(found.get(path.stem, [])) <= set(done)]
            self.assertTrue(free, "files import from each other")
            done.extend(free)


class NamesTest(unittest.TestCase):
    def test_barred_statements_and_signs(self):
        for name, node in nodes(*BARRED):
            self.fail(f"{name}:{node.lineno}: {node}")

    def test_numbers_and_strings(self):
        told = docstrings()
        for name, node in nodes(ast.Constant):
            self.assertNotIsInstance(node.value, (float, complex), f"{name}:{node.lineno}")
            if isinstance(node.value, str) and node.value not in told:
                self.assertNotIn("%", node.value, f"{name}:{node.lineno}")
                self.assertNotRegex(node.value, r"^__.*__$|\._$|\.__$", f"{name}:{node.lineno}")
                self.assertFalse(set(re.findall(r"\w+", node.value)) & (UNUSED - {"type", "open"}), f"{name}:{node.lineno}")

    def test_builtins(self):
        import builtins
        for name, node in nodes(ast.Name):
            if hasattr(builtins, node.id):
                self.assertIn(node.id, BUILTINS, f"{name}:{node.lineno}")
                self.assertIsInstance(node.ctx, ast.Load, f"{name}:{node.lineno}")
            self.assertNotIn(node.id, UNUSED, f"{name}:{node.lineno}")

    def test_parameters_and_functions_hide_no_builtin(self):
        import builtins
        for name, node in nodes(ast.arg, ast.ClassDef, ast.FunctionDef):
            own = node.arg if isinstance(node, ast.arg) else node.name
            self.assertNotIn(own, UNUSED, f"{name}:{node.lineno}")
            if not own.startswith("__"):
                self.assertFalse(hasattr(builtins, own), f"{name}:{node.lineno}")

    def test_double_underscores(self):
        for name, node in nodes(ast.FunctionDef):
            if node.name.startswith("__"):
                self.assertIn(node.name.strip("_"), SPECIAL, f"{name}:{node.lineno}")

    def test_decorators(self):
        for name, node in nodes(ast.FunctionDef, ast.ClassDef):
            for mark in node.decorator_list:
                plain = mark.attr == "setter" if isinstance(mark, ast.Attribute) else mark.id in DECORATORS
                self.assertTrue(plain and isinstance(node, ast.FunctionDef), f"{name}:{node.lineno}")

    def test_a_method_with_a_star_has_a_plain_first_parameter(self):
        for name, node in nodes(ast.ClassDef):
            for part in node.body:
                if isinstance(part, ast.FunctionDef) and (part.args.vararg or part.args.kwarg):
                    self.assertTrue(part.args.args, f"{name}:{part.lineno}")

    def test_methods_of_builtin_values(self):
        own = {node.name for _, node in nodes(ast.FunctionDef)}
        # A rule that another one holds is called off its own object.
        held = {"rule", "one", "other"}
        for name, node in nodes(ast.Call):
            if isinstance(node.func, ast.Attribute):
                told = METHODS | own | (held if getattr(node.func.value, "id", None) == "self" else set())
                self.assertIn(node.func.attr, told, f"{name}:{node.lineno}")

    def test_the_names_of_static_and_class_methods_mean_nothing_else(self):
        kinds = {"property": set(), "staticmethod": set(), "classmethod": set(), "": set()}
        for _, node in nodes(ast.ClassDef):
            for part in node.body:
                if isinstance(part, ast.FunctionDef):
                    marks = [mark.id for mark in part.decorator_list if isinstance(mark, ast.Name)]
                    kinds[marks[0] if marks else ""].add(part.name)
        off = kinds["staticmethod"] | kinds["classmethod"]
        # A property and its setter have one name.
        self.assertEqual(off & (kinds["property"] | kinds[""] | METHODS | assigned_attributes()), set())
        self.assertLessEqual(kinds["property"] & kinds[""], {"tour_now"})
        self.assertEqual(kinds["property"] & METHODS, set())

    def test_no_generator_where_a_list_is_asked_for(self):
        for name, node in nodes(ast.Call):
            called = node.func.id if isinstance(node.func, ast.Name) else ""
            for part in node.args:
                if called in ("any", "all", "min", "max", "sum", "sorted"):
                    self.assertNotIsInstance(part, ast.GeneratorExp, f"{name}:{node.lineno}")

    def test_only_plain_values_are_ordered(self):
        for name, node in nodes(ast.Call):
            if called_name(node) in ("sorted", "min", "max"):
                first = node.args[0]
                plain = [is_plain(part) for part in node.args]
                told = any(plain) if len(plain) > 1 else isinstance(first, ast.ListComp) and is_plain(first.elt)
                self.assertTrue(told or called_name(first) == "range", f"{name}:{node.lineno}")

    def test_no_assignment_in_place(self):
        for name, node in nodes(ast.AugAssign):
            self.fail(f"{name}:{node.lineno}: a class has an operator in place")

    def test_what_is_iterated_and_measured_bars_products(self):
        for name, node in nodes(ast.ImportFrom):
            self.assertNotIn(node.module, ("itertools", "heapq"), f"{name}:{node.lineno}")

    def test_a_class_with_items_is_iterated_over_in_one_statement(self):
        for name, node in nodes(ast.ClassDef):
            own = {part.name: part for part in node.body if isinstance(part, ast.FunctionDef)}
            if "__getitem__" in own:
                self.assertEqual(len(own["__iter__"].body), 1, f"{name}: {node.name}")

    def test_the_end_of_a_block_only_gives_back_attributes(self):
        for name, node in nodes(ast.FunctionDef):
            if node.name == "__exit__":
                for part in node.body:
                    self.assertIsInstance(part, ast.Assign, f"{name}:{part.lineno}")
                    self.assertIsInstance(part.value, ast.Attribute, f"{name}:{part.lineno}")

    def test_generators_are_iterated_at_once(self):
        generators = functions_with(ast.Yield, ast.YieldFrom)
        self.assertTrue(generators)
        names = [node.name for _, node in nodes(ast.FunctionDef)]
        told = {position(name, node.iter) for name, node in nodes(ast.For, ast.comprehension)}
        for name, node in nodes(ast.Call):
            if called_name(node) in ("list", "tuple", "dict", "sorted", "sum", "any", "all"):
                told.update(position(name, part) for part in node.args)
        for name, node in nodes(ast.Call):
            if called_name(node) in generators:
                self.assertEqual(names.count(called_name(node)), 1)
                self.assertTrue(position(name, node) in told, f"{name}:{node.lineno}")
                for part in node.args:
                    self.assertIsInstance(part, (ast.Name, ast.Attribute, ast.Constant), f"{name}:{node.lineno}")

    def test_no_name_is_a_method_and_an_attribute(self):
        assigned = assigned_attributes()
        for name, node in nodes(ast.ClassDef):
            for part in node.body:
                setter = any(isinstance(mark, ast.Attribute) for mark in getattr(part, "decorator_list", []))
                if isinstance(part, ast.FunctionDef) and not setter:
                    self.assertNotIn(part.name, assigned, f"{name}: {node.name}.{part.name}")

    def test_variables_hide_no_class_and_no_import(self):
        for path, tree in trees():
            told = {alias.name for node in tree.body if isinstance(node, ast.ImportFrom) for alias in node.names}
            told |= {node.name for node in tree.body if isinstance(node, (ast.ClassDef, ast.FunctionDef))}
            for node in ast.walk(tree):
                if isinstance(node, ast.arg):
                    self.assertNotIn(node.arg, told, f"{path.name}:{node.lineno}")
                elif isinstance(node, ast.Name) and isinstance(node.ctx, ast.Store):
                    self.assertNotIn(node.id, told, f"{path.name}:{node.lineno}")

    def test_module_level(self):
        plain = (ast.ImportFrom, ast.FunctionDef, ast.ClassDef, ast.Assign, ast.Expr)
        for path, tree in trees():
            for node in tree.body:
                self.assertIsInstance(node, plain, f"{path.name}:{node.lineno}")
                if isinstance(node, ast.Expr):
                    self.assertIsInstance(node.value, ast.Constant, f"{path.name}:{node.lineno}")
                if isinstance(node, ast.Assign):
                    self.assertEqual(len(node.targets), 1)
                    self.assertIsInstance(node.targets[0], ast.Name)


if __name__ == "__main__":
    unittest.main()
