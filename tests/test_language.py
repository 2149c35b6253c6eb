"""The package keeps to the small language that it is written in.

Only the rules that can be seen without much ado are looked at here.
"""

import ast
import builtins
import pathlib
import re
import unittest

ROOT = pathlib.Path(__file__).resolve().parent.parent
PACKAGE = ROOT / "latewires"
FILES = sorted(PACKAGE.rglob("*.py"))

BUILTINS = set("""
    len range enumerate zip min max sum abs sorted reversed int str bool list tuple dict set isinstance ord repr
    any all divmod iter next map type property staticmethod classmethod super NotImplemented
    Exception ValueError TypeError KeyError IndexError LookupError ZeroDivisionError ArithmeticError
    OverflowError RuntimeError NotImplementedError AttributeError StopIteration
""".split())

METHODS = set("""
    append clear copy count endswith extend find get index insert isalnum isalpha isdigit islower isspace isupper
    items join keys ljust lower lstrip partition pop remove replace reverse rfind rjust rpartition rsplit rstrip
    setdefault split splitlines startswith strip update upper values zfill bit_length add discard
    appendleft popleft extendleft rotate removeprefix removesuffix
""".split())

BARRED = set("""
    register mro elements open input law version_info with_traceback add_note
    typing typing_extensions enum Enum IntEnum StrEnum Flag IntFlag Generic Protocol ABC ABCMeta namedtuple
    NamedTuple TypedDict TYPE_CHECKING abstractmethod dataclass overload contextmanager
""".split())

STATEMENTS = (
    ast.FunctionDef, ast.ClassDef, ast.Assign, ast.AugAssign, ast.AnnAssign, ast.If, ast.While, ast.For, ast.Return,
    ast.Break, ast.Continue, ast.Pass, ast.Raise, ast.Assert, ast.Delete, ast.Nonlocal, ast.Match, ast.With,
    ast.Try, ast.Expr, ast.ImportFrom,
)

# Where the interface lists each function and class.
INTERFACE = {
    "signals": ["signal_error", "is_on", "on_ticks"],
    "signaltexts": ["signal_text", "read_signal"],
    "rows": ["row_error"],
    "rowtexts": ["row_text", "read_row"],
    "answers": ["answer", "answers"],
    "walks": ["heights", "stages", "form"],
    "meanings": ["cleaned", "meant"],
    "orders": ["filled_ahead", "dropped_ahead", "alike", "within", "shifts"],
    "papers": ["beyond", "beyond_holds", "unlike", "unlike_holds"],
    "chains": ["is_exchange", "chain", "chain_holds"],
    "forms": ["form_error"],
    "building": ["row_of", "fewest_parts", "fewest_timers"],
    "counting": ["effects", "effect_count"],
    "promises": ["keeps", "form_for", "alike_for", "within_for", "beyond_for", "undone_by"],
    "powers": ["power_form", "settles"],
    "pulses": ["pulse", "gap"],
    "loose": ["loose_error", "most_on", "least_on", "sure_within", "sure_beyond", "sure_beyond_holds", "always_alike"],
    "asking": ["told_back"],
    "benches": ["Bench"],
    "logs": ["log_text", "read_log", "bench_behind"],
    "shells": ["Shell"],
}


def tree_of(path):
    return ast.parse(path.read_text(encoding="utf-8"))


def imports_of(tree):
    """Return the list of pairs of the module and the name of each import."""
    return [(node.module, alias.name) for node in tree.body if isinstance(node, ast.ImportFrom)
            for alias in node.names]


def bound_in(tree):
    """Return the set of all names that stand as functions, classes, parameters, targets or imports."""
    names = set()
    for node in ast.walk(tree):
        if isinstance(node, (ast.FunctionDef, ast.ClassDef)):
            names.add(node.name)
        elif isinstance(node, ast.arg):
            names.add(node.arg)
        elif isinstance(node, ast.Name) and not isinstance(node.ctx, ast.Load):
            names.add(node.id)
        elif isinstance(node, ast.ExceptHandler) and node.name:
            names.add(node.name)
        elif isinstance(node, ast.alias):
            names.add(node.name)
        elif isinstance(node, (ast.MatchAs, ast.MatchStar)) and node.name:
            names.add(node.name)
    return names


def changed_and_walked(node):
    """Return the list of pairs of what node changes and what it walks to do so."""
    if isinstance(node, ast.AugAssign) and isinstance(node.op, (ast.Add, ast.BitOr)):
        return [(node.target, node.value)]
    if isinstance(node, ast.Call) and isinstance(node.func, ast.Attribute) and node.func.attr in ("extend", "update"):
        return [(node.func.value, given) for given in node.args]
    return []


def gets_what_it_changes(target, walked):
    """Return whether walked reads what target stands in, other than as a list of its own."""
    while isinstance(target, ast.Subscript):
        target = target.value
    if isinstance(walked, ast.Call) and isinstance(walked.func, ast.Name) and walked.func.id == "list":
        return False
    return ast.unparse(target) in [ast.unparse(part) for part in ast.walk(walked) if isinstance(part, ast.expr)]


def over_files():
    return [(path, tree_of(path)) for path in FILES]


class TestLanguage(unittest.TestCase):
    def test_the_folder_holds_files_of_code_alone(self):
        for path in PACKAGE.rglob("*"):
            if "__pycache__" not in path.parts:
                self.assertTrue(path.is_dir() or path.suffix == ".py", path)
                self.assertRegex(path.stem, r"^([a-z][a-z0-9_]*|__init__|__main__)$")
                self.assertNotRegex(path.stem, r"^(law_|test)")

    def test_sizes_and_signs(self):
        for path, tree in over_files():
            text = path.read_text(encoding="utf-8")
            lines = text.split("\n")
            self.assertLessEqual(len(lines), 400, path)
            self.assertTrue(all(sign == "\n" or " " <= sign <= "~" for sign in text), path)
            self.assertTrue(all(len(line) <= 120 for line in lines), path)
            for node in ast.walk(tree):
                if isinstance(node, ast.FunctionDef):
                    self.assertLessEqual(node.end_lineno - node.lineno + 1, 40, node.name)

    def test_imports_name_the_file_that_defines(self):
        for path, tree in over_files():
            for node in ast.walk(tree):
                self.assertNotIsInstance(node, ast.Import, path)
            for module, name in imports_of(tree):
                self.assertTrue(module.startswith("latewires."), module)
                source = tree_of(PACKAGE / (module.split(".")[1] + ".py"))
                defined = [node.name for node in source.body if isinstance(node, (ast.FunctionDef, ast.ClassDef))]
                defined += [node.targets[0].id for node in source.body if isinstance(node, ast.Assign)]
                self.assertIn(name, defined, path)

    def test_no_two_files_import_from_each_other(self):
        ahead = {path.stem: {module.split(".")[1] for module, _ in imports_of(tree_of(path))} for path in FILES}
        done = set()
        while len(done) < len(ahead):
            free = [name for name in ahead if name not in done and ahead[name] <= done]
            self.assertTrue(free, sorted(set(ahead) - done))
            done.update(free)

    def test_modules_hold_definitions_alone(self):
        for path, tree in over_files():
            for place, node in enumerate(tree.body):
                if isinstance(node, ast.Expr):
                    self.assertTrue(place == 0 and isinstance(node.value, ast.Constant))
                else:
                    self.assertIsInstance(node, (ast.FunctionDef, ast.ClassDef, ast.Assign, ast.ImportFrom), path)
            bound = [node.name for node in tree.body if isinstance(node, (ast.FunctionDef, ast.ClassDef))]
            bound += [node.targets[0].id for node in tree.body if isinstance(node, ast.Assign)]
            bound += [name for _, name in imports_of(tree)]
            self.assertEqual(len(bound), len(set(bound)), path)

    def test_names(self):
        for path, tree in over_files():
            bound = bound_in(tree)
            held = {name for _, name in imports_of(tree)}
            for node in ast.walk(tree):
                if isinstance(node, ast.FunctionDef):
                    inner = bound_in(ast.Module(body=node.body, type_ignores=[]))
                    inner |= {arg.arg for arg in ast.walk(node.args) if isinstance(arg, ast.arg)}
                    self.assertFalse(inner & held, (path, node.name))
                if isinstance(node, ast.Name) and isinstance(node.ctx, ast.Load) and node.id not in bound:
                    self.assertIn(node.id, BUILTINS, path)
            for name in bound - {"__init__", "__eq__", "__len__", "__iter__", "__contains__", "__getitem__", "__ne__"}:
                self.assertRegex(name, r"^(_|_?[A-Za-z][A-Za-z0-9_]*)$")
                self.assertFalse(hasattr(builtins, name), name)
                self.assertNotRegex(name, r"^_(wall|pe_|dcw_|enum_|cm_|twin_re_|lay_|law_|stub_|sre|cold|outside)")

    def test_statements_and_values(self):
        for path, tree in over_files():
            for node in ast.walk(tree):
                if isinstance(node, ast.stmt):
                    self.assertIsInstance(node, STATEMENTS, path)
                if isinstance(node, ast.Constant):
                    self.assertNotIsInstance(node.value, (float, complex, bytes))
                    if isinstance(node.value, str):
                        self.assertNotIn("%", node.value, path)
                self.assertNotIsInstance(node, (ast.Div, ast.MatMult, ast.Await))
                if isinstance(node, (ast.FunctionDef, ast.ClassDef)):
                    for decorator in node.decorator_list:
                        self.assertIsInstance(node, ast.FunctionDef)
                        self.assertRegex(ast.unparse(decorator), r"^(property|staticmethod|classmethod|\w+\.setter)$")
                if isinstance(node, ast.Compare):
                    for sign, right in zip(node.ops, node.comparators):
                        if isinstance(sign, (ast.Is, ast.IsNot)):
                            self.assertIsInstance(right, ast.Constant, path)

    def test_methods_and_words(self):
        own = set()
        for path in FILES:
            for node in ast.walk(tree_of(path)):
                if isinstance(node, ast.ClassDef):
                    own.update(item.name for item in node.body if isinstance(item, ast.FunctionDef))
        for path, tree in over_files():
            for node in ast.walk(tree):
                if isinstance(node, ast.Call) and isinstance(node.func, ast.Attribute):
                    self.assertIn(node.func.attr, METHODS | own, path)
            words = set(re.findall(r"\w+", path.read_text(encoding="utf-8")))
            self.assertFalse(words & BARRED, path)

    def test_type_tells_a_name_alone(self):
        for path, tree in over_files():
            text = path.read_text(encoding="utf-8")
            self.assertEqual(len(re.findall(r"\btype\b", text)), len(re.findall(r"\btype\(\w+\)\.__name__", text)), path)
            self.assertFalse("(type)" in text or "Meta" in text or "metaclass=" in text, path)

    def test_what_a_class_that_compares_and_is_iterated_over_bars(self):
        for path, tree in over_files():
            for node in ast.walk(tree):
                self.assertNotIsInstance(node, (ast.GeneratorExp, ast.Yield, ast.YieldFrom), path)
                if isinstance(node, ast.Call) and isinstance(node.func, ast.Name):
                    self.assertNotIn(node.func.id, ("reversed", "map", "frozenset"), path)
                if isinstance(node, ast.Call) and isinstance(node.func, ast.Attribute):
                    self.assertNotEqual(node.func.attr, "sort", path)
                if isinstance(node, ast.FunctionDef) and node.name == "__eq__":
                    self.assertRegex(ast.unparse(node.body[-1]),
                                     r"^return isinstance\(other, (\w+)\) and self\.(\w+) == other\.\2$")
                if isinstance(node, ast.FunctionDef) and node.name == "__iter__":
                    self.assertRegex(ast.unparse(node.body[-1]), r"^return iter\(self\.\w+\)$")
                    self.assertEqual(len(node.body), 1)
                if isinstance(node, ast.pattern):
                    self.assertIsInstance(node, (ast.MatchSequence, ast.MatchValue, ast.MatchAs, ast.MatchStar), path)

    def test_nothing_walks_what_it_changes(self):
        for path, tree in over_files():
            for node in ast.walk(tree):
                for target, walked in changed_and_walked(node):
                    self.assertFalse(gets_what_it_changes(target, walked), (path, node.lineno))

    def test_what_walks_what_it_changes_is_seen(self):
        for text, seen in (("a[k] += a[k - 1]", True), ("a += a", True), ("a.b |= c.d(a.b)", True),
                           ("a.b[k].extend(a.b)", True), ("a.update(b or a)", True), ("a += list(a)", False),
                           ("a.extend(list(a[1:]))", False), ("a.b += a.c", False), ("a[k] += b[k]", False)):
            pairs = [pair for node in ast.walk(ast.parse(text)) for pair in changed_and_walked(node)]
            self.assertEqual([gets_what_it_changes(*pair) for pair in pairs], [seen], text)

    def test_handlers_catch_own_errors(self):
        own = bound_in(tree_of(PACKAGE / "errors.py")) | {"KeyError", "ZeroDivisionError"}
        for path, tree in over_files():
            for node in ast.walk(tree):
                if isinstance(node, ast.ExceptHandler):
                    for name in ast.walk(node.type):
                        if isinstance(name, ast.Name):
                            self.assertIn(name.id, own, path)

    def test_the_interface_is_defined_where_it_is_listed(self):
        for module, names in INTERFACE.items():
            tree = tree_of(PACKAGE / (module + ".py"))
            defined = [node.name for node in tree.body if isinstance(node, (ast.FunctionDef, ast.ClassDef))]
            for name in names:
                self.assertIn(name, defined)


if __name__ == "__main__":
    unittest.main()
