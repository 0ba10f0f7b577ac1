"""The files of the package against the rules of the language that can be looked at from outside."""

import ast
import builtins
import functools
import os
import re
import unittest

ROOT = os.path.dirname(os.path.dirname(os.path.abspath(__file__)))
PACKAGE = os.path.join(ROOT, "gapwise")

BUILTINS = set(
    "len range enumerate zip map min max sum abs sorted reversed int str bool bytes list tuple dict set frozenset "
    "isinstance ord repr any all divmod pow getattr hasattr setattr iter next type super property staticmethod "
    "classmethod Exception ValueError TypeError KeyError IndexError LookupError ZeroDivisionError ArithmeticError "
    "OverflowError RuntimeError NotImplementedError AttributeError StopIteration NotImplemented".split())
METHODS = set(
    "append clear copy count endswith extend find get index insert isalnum isalpha isdigit islower isspace isupper "
    "items join keys ljust lower lstrip partition pop remove replace reverse rfind rjust rpartition rsplit rstrip "
    "setdefault split splitlines startswith strip update upper values zfill bit_length title capitalize swapcase "
    "casefold center expandtabs removeprefix removesuffix rindex isascii isdecimal isnumeric istitle isidentifier "
    "isprintable sort add discard".split())
NOT_ATTRIBUTES = set(
    "items keys values pop update append clear extend insert remove reverse setdefault sort args encode decode hex "
    "fromhex format".split())
NO_NAMES = set("register mro elements open input law version_info with_traceback add_note".split())
NO_VARIABLES = set(
    "attrgetter breakpoint builtins compile copyright credits delattr dir eval exec exit gc getattr globals hasattr "
    "help id importlib license locals methodcaller os quit setattr super type vars sys".split())
NO_WORDS = set(
    "typing typing_extensions enum Enum IntEnum StrEnum Flag IntFlag Generic Protocol ABC ABCMeta namedtuple "
    "NamedTuple TypedDict TYPE_CHECKING abstractmethod".split())
STATEMENTS = (
    ast.Assign, ast.AugAssign, ast.AnnAssign, ast.If, ast.While, ast.For, ast.Return, ast.Break, ast.Continue, ast.Pass,
    ast.Raise, ast.Assert, ast.Delete, ast.Nonlocal, ast.Match, ast.With, ast.Try, ast.Expr, ast.FunctionDef)


def files():
    return sorted(name for name in os.listdir(PACKAGE) if name != "__pycache__")


def source(name):
    with open(os.path.join(PACKAGE, name), encoding="utf-8") as held:
        return held.read()


@functools.lru_cache
def trees():
    return {name: ast.parse(source(name)) for name in files()}


def functions(tree):
    return [node for node in ast.walk(tree) if isinstance(node, ast.FunctionDef)]


def bound_names(function):
    """All parameters and variables of a function, those of its comprehensions too."""
    names = [arg.arg for arg in ast.walk(function.args) if isinstance(arg, ast.arg)]
    for node in ast.walk(function):
        if isinstance(node, ast.Name) and isinstance(node.ctx, ast.Store):
            names.append(node.id)
        elif isinstance(node, ast.ExceptHandler) and node.name:
            names.append(node.name)
        elif isinstance(node, ast.arg):
            names.append(node.arg)
    return names


def module_names(tree):
    """The names that are bound at module level: of imports, of classes, and all others."""
    imported, classes, others = [], [], []
    for node in tree.body:
        if isinstance(node, ast.ImportFrom):
            imported.extend(alias.asname or alias.name for alias in node.names)
        elif isinstance(node, ast.ClassDef):
            classes.append(node.name)
        elif isinstance(node, ast.FunctionDef):
            others.append(node.name)
        elif isinstance(node, ast.Assign):
            others.extend(target.id for target in node.targets)
    return imported, classes, others


class Files(unittest.TestCase):
    def test_names_and_sizes(self):
        for name in files():
            self.assertRegex(name, r"^[a-z_][a-z0-9_]*\.py$")
            lines = source(name).split("\n")
            self.assertLessEqual(len(lines) - 1, 399, name)
            for number, line in enumerate(lines, 1):
                self.assertLessEqual(len(line), 120, (name, number))
                self.assertRegex(line, r"^[ -~]*$", (name, number))

    def test_functions_have_at_most_40_lines(self):
        for name, tree in trees().items():
            for function in functions(tree):
                self.assertLessEqual(function.end_lineno - function.lineno + 1, 40, (name, function.name))

    def test_imports(self):
        library = {
            "math": {"gcd", "lcm", "isqrt", "comb", "perm", "factorial"}, "itertools": {"product", "combinations", "permutations"}}
        ahead = {}
        for name, tree in trees().items():
            ahead[name] = []
            seen = False
            for node in tree.body:
                is_import = isinstance(node, ast.ImportFrom)
                is_doc = isinstance(node, ast.Expr) and isinstance(node.value, ast.Constant)
                self.assertFalse(is_import and seen, name)
                seen = seen or not (is_import or is_doc)
            for node in ast.walk(tree):
                self.assertNotIsInstance(node, ast.Import, name)
                if not isinstance(node, ast.ImportFrom):
                    continue
                self.assertEqual(node.level, 0)
                names = {alias.name for alias in node.names}
                if node.module in library:
                    self.assertLessEqual(names, library[node.module])
                    continue
                package, module = node.module.split(".")
                self.assertEqual(package, "gapwise")
                ahead[name].append(module + ".py")
                _, classes, others = module_names(trees()[module + ".py"])
                self.assertLessEqual(names, set(classes + others), (name, module))
        done = set()
        while len(done) < len(ahead):
            ready = {name for name in ahead if name not in done and set(ahead[name]) <= done}
            self.assertTrue(ready, "files import from each other")
            done |= ready


class Names(unittest.TestCase):
    def test_module_level(self):
        for name, tree in trees().items():
            imported, classes, others = module_names(tree)
            names = imported + classes + others
            self.assertEqual(len(names), len(set(names)), name)
            for one in names:
                self.assertFalse(hasattr(builtins, one), (name, one))
            for node in tree.body:
                fine = (ast.ImportFrom, ast.FunctionDef, ast.ClassDef, ast.Assign)
                is_doc = isinstance(node, ast.Expr) and isinstance(node.value, ast.Constant)
                self.assertTrue(is_doc or isinstance(node, fine), (name, node.lineno))
                if isinstance(node, ast.Assign):
                    self.assertEqual(len(node.targets), 1)
                    for part in ast.walk(node.value):
                        self.assertNotIsInstance(part, (ast.Call, ast.Lambda, ast.ListComp), (name, node.lineno))

    def test_variables(self):
        for name, tree in trees().items():
            imported, classes, _ = module_names(tree)
            for function in functions(tree):
                self.assertTrue(function.name[:2] == "__" or not hasattr(builtins, function.name), (name, function.name))
                for one in bound_names(function):
                    self.assertFalse(hasattr(builtins, one), (name, one))
                    self.assertNotIn(one, imported + classes, (name, function.name))
                    self.assertNotIn(one, NO_NAMES | NO_VARIABLES, name)

    def test_unused_imports(self):
        for name, tree in trees().items():
            used = {node.id for node in ast.walk(tree) if isinstance(node, ast.Name)}
            self.assertLessEqual(set(module_names(tree)[0]), used, name)

    def test_builtins_and_globals(self):
        for name, tree in trees().items():
            known = set(sum(module_names(tree), []))
            for function in functions(tree):
                known |= set(bound_names(function))
            for node in ast.walk(tree):
                if isinstance(node, ast.Name) and isinstance(node.ctx, ast.Load) and node.id not in known:
                    self.assertIn(node.id, BUILTINS, (name, node.lineno))

    def test_attributes_and_methods(self):
        methods, attributes = set(), set()
        for tree in trees().values():
            for node in ast.walk(tree):
                if isinstance(node, ast.ClassDef):
                    methods |= {part.name for part in node.body if isinstance(part, ast.FunctionDef)}
                if isinstance(node, ast.Attribute) and isinstance(node.ctx, ast.Store):
                    attributes.add(node.attr)
        self.assertFalse(attributes & (NOT_ATTRIBUTES | NO_NAMES))
        # The interface has a method House.place and an attribute BadText.place.
        self.assertEqual(methods & attributes, {"place"})
        for name, tree in trees().items():
            for node in ast.walk(tree):
                if isinstance(node, ast.Attribute):
                    self.assertIn(node.attr, methods | attributes | METHODS | {"__init__"}, (name, node.lineno))

    def test_words(self):
        for name in files():
            words = set(re.findall(r"\w+", source(name)))
            self.assertFalse(words & NO_WORDS, name)
            self.assertFalse([word for word in words if re.match(r"_?(wall|WallAttr|pe_|dcw_|enum_|cm_|law_)", word)])


class Statements(unittest.TestCase):
    def test_statements_and_expressions(self):
        barred = (
            ast.AsyncFunctionDef, ast.Await, ast.Global, ast.Yield, ast.YieldFrom, ast.Set, ast.NamedExpr,
            ast.GeneratorExp, ast.Div)
        for name, tree in trees().items():
            for node in ast.walk(tree):
                place = (name, getattr(node, "lineno", 0))
                if isinstance(node, ast.stmt) and not isinstance(node, (ast.ClassDef, ast.ImportFrom)):
                    self.assertIsInstance(node, STATEMENTS, place)
                self.assertNotIsInstance(node, barred, place)
                if isinstance(node, ast.FunctionDef):
                    self.assertEqual(node.decorator_list, [], place)
                    self.assertIsNone(node.returns, place)
                if isinstance(node, ast.arg):
                    self.assertIsNone(node.annotation, place)
                if isinstance(node, ast.Constant):
                    self.assertNotIsInstance(node.value, (float, complex), place)
                    if isinstance(node.value, str):
                        self.assertNotIn("%", node.value, place)

    def test_is_and_exponents(self):
        for name, tree in trees().items():
            for node in ast.walk(tree):
                if isinstance(node, ast.Compare):
                    for sign, side in zip(node.ops, node.comparators):
                        if isinstance(sign, (ast.Is, ast.IsNot)):
                            self.assertIsInstance(side, ast.Constant, (name, node.lineno))
                if isinstance(node, ast.BinOp) and isinstance(node.op, ast.Pow):
                    self.assertIsInstance(node.right, ast.Constant, (name, node.lineno))

    def test_lazy_things_are_iterated_at_once(self):
        lazy = {"zip", "enumerate", "reversed", "range", "map"}
        takers = {"list", "tuple", "dict", "sorted", "sum", "any", "all", "enumerate", "zip", "min", "max", "len"}
        for name, tree in trees().items():
            parents = {child: node for node in ast.walk(tree) for child in ast.iter_child_nodes(node)}
            for node in ast.walk(tree):
                if isinstance(node, ast.Call) and isinstance(node.func, ast.Name) and node.func.id in lazy:
                    parent = parents[node]
                    fine = isinstance(parent, (ast.For, ast.comprehension)) or (
                        isinstance(parent, ast.Call) and isinstance(parent.func, ast.Name) and parent.func.id in takers
                        and parent.args[0] is node)
                    self.assertTrue(fine, (name, node.lineno))

    def test_errors_are_made_where_they_are_raised(self):
        for name, tree in trees().items():
            for node in ast.walk(tree):
                if isinstance(node, ast.Raise) and node.exc is not None:
                    self.assertIsInstance(node.exc, ast.Call, (name, node.lineno))
                    self.assertRegex(node.exc.func.id, "^[A-Z]", (name, node.lineno))
                if isinstance(node, ast.ExceptHandler):
                    parts = node.type.elts if isinstance(node.type, ast.Tuple) else [node.type]
                    for part in parts:
                        self.assertIsInstance(part, ast.Name, (name, node.lineno))

    def test_stars_in_calls(self):
        for name, tree in trees().items():
            for node in ast.walk(tree):
                if isinstance(node, ast.Call):
                    for part in node.args:
                        if isinstance(part, ast.Starred):
                            self.assertIsInstance(part.value, (ast.Name, ast.Attribute), (name, node.lineno))
                    for word in node.keywords:
                        self.assertIsNotNone(word.arg, (name, node.lineno))

    def test_sets_are_measured_or_sorted_at_once(self):
        for name, tree in trees().items():
            parents = {child: node for node in ast.walk(tree) for child in ast.iter_child_nodes(node)}
            for node in ast.walk(tree):
                if isinstance(node, ast.SetComp):
                    parent = parents[node]
                    self.assertTrue(isinstance(parent, ast.Call) and parent.func.id in ("sorted", "len"), (name, node.lineno))

    def test_what_a_loop_goes_over_is_not_changed_in_it(self):
        changing = {"append", "extend", "pop", "setdefault", "insert", "remove", "clear", "update", "reverse"}
        for name, tree in trees().items():
            for node in ast.walk(tree):
                if not isinstance(node, ast.For):
                    continue
                over = {ast.unparse(part) for part in ast.walk(node.iter) if isinstance(part, (ast.Name, ast.Attribute))}
                for part in ast.walk(ast.Module(node.body, [])):
                    changed = None
                    if isinstance(part, ast.Call) and isinstance(part.func, ast.Attribute) and part.func.attr in changing:
                        changed = part.func.value
                    elif isinstance(part, ast.Subscript) and not isinstance(part.ctx, ast.Load):
                        changed = part.value
                    self.assertFalse(changed is not None and ast.unparse(changed) in over, (name, node.lineno))

    def test_no_method_is_read_off_a_class(self):
        names = {one for tree in trees().values() for one in module_names(tree)[1]}
        for name, tree in trees().items():
            for node in ast.walk(tree):
                if isinstance(node, ast.Attribute) and isinstance(node.value, ast.Name):
                    self.assertNotIn(node.value.id, names, (name, node.lineno))

    def test_the_whole_package_has_at_most_100_files(self):
        self.assertLessEqual(len(files()), 100)


if __name__ == "__main__":
    unittest.main()
