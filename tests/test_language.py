"""The files of the package keep to those rules of LANGUAGE.md that can be read off their trees."""

import ast
import builtins
import pathlib
import unittest

PACKAGE = pathlib.Path(__file__).resolve().parent.parent / "proofsizes"
BUILTINS = set(
    "len range enumerate zip min max sum abs sorted reversed int str bool list tuple dict set isinstance ord "
    "repr any all divmod Exception ValueError TypeError KeyError IndexError LookupError RuntimeError".split()
)
METHODS = set(
    "append clear copy count endswith extend find get index insert isalnum isalpha isdigit islower isspace "
    "isupper items join keys ljust lower lstrip partition pop remove replace reverse rfind rjust rpartition "
    "rsplit rstrip setdefault split splitlines startswith strip update upper values zfill bit_length add "
    "discard".split()
)
LIBRARY = {"heapq": {"heappush", "heappop"}}
# What is walked on the spot, and the calls in which it may stand for that: as the first argument, as any one, alone.
WALKED = {"zip", "enumerate", "reversed", "range"}
VIEWS = {"items", "keys", "values"}
WALKERS = {"list", "tuple", "dict", "sorted", "sum", "any", "all", "enumerate", "zip", "min", "max"}
BARRED = set("mro elements open input law version_info with_traceback add_note register type typing".split())
DOUBLE = {"__init__", "__eq__", "__bool__"}
# What changes that of which it is a method, and what changes its first argument.
CHANGING = set("append clear extend insert pop remove reverse setdefault sort update add discard".split())
HEAPING = {"heapify", "heappop", "heappush", "heappushpop", "heapreplace"}


def trees():
    """The package's files by name, each with its text and its tree."""
    found = {}
    for path in sorted(PACKAGE.glob("*.py")):
        text = path.read_text(encoding="utf-8")
        found[path.stem] = (text, ast.parse(text))
    return found


def bound_names(function):
    """The names that a function binds: parameters, targets, nested functions."""
    names = []
    for node in ast.walk(function):
        if isinstance(node, ast.arg):
            names.append(node.arg)
        elif isinstance(node, ast.Name) and isinstance(node.ctx, (ast.Store, ast.Del)):
            names.append(node.id)
        elif isinstance(node, ast.FunctionDef) and node is not function:
            names.append(node.name)
    return names


def is_call_of(node, names):
    """Whether a node is a call of one of some functions by its bare name."""
    return isinstance(node, ast.Call) and isinstance(node.func, ast.Name) and node.func.id in names


def is_made_as_it_stands(node):
    """Whether a node shows by itself that it is a new list or dict; a slice of one, say, does not."""
    made = (ast.List, ast.Dict, ast.ListComp, ast.DictComp)
    return isinstance(node, made) or is_call_of(node, {"list", "dict", "sorted"})


def made_names(function):
    """The names that a function binds to nothing but new lists and dicts, as far as each binding shows by itself."""
    bound, made = bound_names(function), []
    for node in ast.walk(function):
        if isinstance(node, ast.Assign) and is_made_as_it_stands(node.value):
            made.extend(target.id for target in node.targets if isinstance(target, ast.Name))
    return {name for name in made if made.count(name) == bound.count(name)}


def changed_in(function):
    """The nodes of what a function changes, but for its names: what has methods, items or attributes changed."""
    found = []
    for node in ast.walk(function):
        if isinstance(node, (ast.Subscript, ast.Attribute)) and isinstance(node.ctx, (ast.Store, ast.Del)):
            found.append(node if isinstance(node, ast.Attribute) else node.value)
        elif isinstance(node, ast.AugAssign) and isinstance(node.op, ast.Add) and isinstance(node.target, ast.Name):
            found.extend([] if isinstance(node.value, ast.Constant) else [node.target])
        elif isinstance(node, ast.Call) and isinstance(node.func, ast.Attribute) and node.func.attr in CHANGING:
            found.append(node.func.value)
        elif is_call_of(node, HEAPING):
            found.append(node.args[0])
    return found


def foreign_changes(function):
    """The rows in which a function changes what it doesn't plainly make itself."""
    made = made_names(function)
    changed = [node for node in changed_in(function) if not isinstance(node, ast.Name) or node.id not in made]
    return sorted(node.lineno for node in changed)


class LanguageTest(unittest.TestCase):
    def setUp(self):
        self.trees = trees()

    def nodes(self, *kinds):
        for name, (_, tree) in self.trees.items():
            for node in ast.walk(tree):
                if isinstance(node, kinds):
                    yield name, node

    def own_imports(self, name):
        """What a file imports of the package; the library is asked by itself."""
        found = [node for node in self.trees[name][1].body if isinstance(node, ast.ImportFrom)]
        return [node for node in found if node.module not in LIBRARY]

    def test_lines_files_and_characters(self):
        self.assertLessEqual(len(self.trees), 100)
        for name, (text, _) in self.trees.items():
            lines = text.split("\n")
            self.assertLessEqual(len(lines), 399, name)
            for line in lines:
                self.assertLessEqual(len(line), 120, (name, line))
            self.assertTrue(all(" " <= sign <= "~" or sign == "\n" for sign in text), name)
        self.assertEqual([path.suffix for path in PACKAGE.iterdir() if path.is_file()], [".py"] * len(self.trees))

    def test_functions_are_short_and_plain(self):
        for name, node in self.nodes(ast.FunctionDef):
            self.assertLessEqual(node.end_lineno - node.lineno + 1, 40, (name, node.name))
            self.assertFalse(node.decorator_list, (name, node.name))
            if node.name.startswith("__"):
                self.assertIn(node.name, DOUBLE, name)
            self.assertTrue(ast.get_docstring(node) or node.name.startswith("__"), (name, node.name))

    def test_only_named_statements_and_expressions(self):
        barred = (ast.GeneratorExp, ast.Try, ast.Global, ast.AsyncFunctionDef, ast.With, ast.Yield, ast.YieldFrom)
        for name, node in self.nodes(*barred, ast.Set, ast.AnnAssign, ast.NamedExpr, ast.Div, ast.Import):
            self.fail((name, node.lineno, type(node).__name__))

    def test_builtins_and_methods(self):
        own = {node.name for _, node in self.nodes(ast.FunctionDef)}
        for name, node in self.nodes(ast.Call):
            if isinstance(node.func, ast.Name) and hasattr(builtins, node.func.id):
                self.assertIn(node.func.id, BUILTINS, (name, node.lineno))
            if isinstance(node.func, ast.Attribute):
                self.assertIn(node.func.attr, METHODS | own, (name, node.lineno))

    def test_ranges_zips_and_views_are_walked_on_the_spot(self):
        for name, (_, tree) in self.trees.items():
            walked = set()
            for node in ast.walk(tree):
                if isinstance(node, (ast.For, ast.comprehension)):
                    walked.add(node.iter)
                elif isinstance(node, ast.Call) and isinstance(node.func, ast.Name):
                    many = len(node.args) if node.func.id == "zip" else 1
                    if node.func.id in WALKERS:
                        walked.update(node.args[:many])
                    elif node.func.id in ("reversed", "len"):
                        walked.update(one for one in node.args if is_call_of(one, {"range"}))
                elif isinstance(node, ast.Compare) and isinstance(node.ops[0], ast.In):
                    walked.update(one for one in node.comparators if is_call_of(one, {"range"}))
            for node in ast.walk(tree):
                if is_call_of(node, WALKED) or isinstance(node, ast.Call) and isinstance(node.func, ast.Attribute) and node.func.attr in VIEWS:
                    self.assertIn(node, walked, (name, node.lineno))

    def test_names(self):
        for name, node in self.nodes(ast.Name, ast.arg, ast.Attribute, ast.FunctionDef, ast.ClassDef):
            called = [getattr(node, field) for field in ("id", "arg", "attr", "name") if hasattr(node, field)]
            self.assertFalse(BARRED & set(called), (name, node.lineno))

    def test_no_name_means_two_things(self):
        for name, (_, tree) in self.trees.items():
            taken = [node.name for node in tree.body if isinstance(node, ast.ClassDef)]
            for node in tree.body:
                if isinstance(node, ast.ImportFrom):
                    if node.module in LIBRARY:
                        self.assertLessEqual({alias.name for alias in node.names}, LIBRARY[node.module], name)
                    else:
                        self.assertTrue(node.module.startswith("proofsizes."), name)
                    self.assertFalse([alias for alias in node.names if alias.asname], name)
                    taken.extend(alias.name for alias in node.names)
            functions = [node.name for node in tree.body if isinstance(node, ast.FunctionDef)]
            self.assertEqual(len(taken + functions), len(set(taken + functions)), name)
            for node in ast.walk(tree):
                if isinstance(node, ast.FunctionDef):
                    for bound in bound_names(node):
                        self.assertNotIn(bound, taken, (name, node.name))
                        self.assertFalse(hasattr(builtins, bound), (name, node.name, bound))

    def test_all_that_is_imported_is_used(self):
        for name, (_, tree) in self.trees.items():
            used = {node.id for node in ast.walk(tree) if isinstance(node, ast.Name)}
            for node in self.own_imports(name):
                source = self.trees[node.module.split(".")[1]][1].body
                names = {one.name for one in source if isinstance(one, (ast.FunctionDef, ast.ClassDef))}
                for one in source:
                    if isinstance(one, ast.Assign):
                        names.update(target.id for target in one.targets)
                for alias in node.names:
                    self.assertIn(alias.name, names, name)
            for node in tree.body:
                for alias in node.names if isinstance(node, ast.ImportFrom) else []:
                    self.assertIn(alias.name, used, name)

    def test_nothing_calls_itself(self):
        for name, function in self.nodes(ast.FunctionDef):
            for node in ast.walk(function):
                if isinstance(node, ast.Call):
                    called = node.func
                    if isinstance(called, ast.Attribute) and isinstance(called.value, ast.Name):
                        self.assertNotEqual((called.value.id, called.attr), ("self", function.name), name)
                    elif isinstance(called, ast.Name):
                        is_method = bool(function.args.args) and function.args.args[0].arg == "self"
                        self.assertTrue(is_method or called.id != function.name, (name, function.name))

    def callables(self):
        """All functions and methods with their files: a function by its file and name, a method by its name alone.

        Of a class its `__init__` stands under the file and name of the class, too.
        """
        found = {}
        for name, (_, tree) in self.trees.items():
            for node in tree.body:
                if isinstance(node, ast.FunctionDef):
                    found[name, node.name] = [(name, node)]
                elif isinstance(node, ast.ClassDef):
                    methods = [(name, one) for one in node.body if isinstance(one, ast.FunctionDef)]
                    found[name, node.name] = [one for one in methods if one[1].name == "__init__"]
                    for one in methods:
                        found.setdefault(one[1].name, []).append(one)
        return found

    def called_by(self, name, function, callables):
        """The functions and methods, with their files, that a function of a file calls or passes on to be called."""
        sources = {alias.name: node.module.split(".")[1] for node in self.own_imports(name) for alias in node.names}
        found = []
        for node in ast.walk(function):
            if isinstance(node, ast.Call) and not is_call_of(node, {"isinstance"}):
                for one in [node.func, *node.args, *[keyword.value for keyword in node.keywords]]:
                    if isinstance(one, ast.Name):
                        found.extend(callables.get((sources.get(one.id, name), one.id), []))
                    elif isinstance(one, ast.Attribute):
                        found.extend(callables.get(one.attr, []))
        return found

    def test_equality_and_truth_change_only_what_they_plainly_make(self):
        callables = self.callables()
        reached = callables["__eq__"] + callables["__bool__"]
        for name, function in reached:
            self.assertEqual(foreign_changes(function), [], (name, function.name))
            called = self.called_by(name, function, callables)
            reached.extend(one for one in called if one not in reached)
        self.assertIn("unlike_parts", {function.name for _, function in reached})

    def test_what_is_plainly_made(self):
        plain = ["[]", "[k for k in xs]", "list(xs)", "dict(xs)", "sorted(xs)", "{}", "{k: 1 for k in xs}"]
        for made in plain:
            text = f"def told(xs):\n    row = {made}\n    row.pop()\n    row[0] = 1\n    return row"
            self.assertEqual(foreign_changes(ast.parse(text).body[0]), [], made)
        for made in ["xs", "[k for k in xs][::-1]", "xs[1:]", "xs.copy()", "[0] * 2", "[] if xs else {}"]:
            text = f"def told(xs):\n    row = {made}\n    row.pop()\n    row[0] = 1\n    return row"
            self.assertEqual(foreign_changes(ast.parse(text).body[0]), [3, 4], made)
        for change in ["xs.append(1)", "heappush(xs, 1)", "del xs[0]", "xs.n = 1", "xs += [1]", "xs[0][1] = 1"]:
            text = f"def told(xs):\n    row = []\n    {change}\n    row.append(1)"
            self.assertEqual(foreign_changes(ast.parse(text).body[0]), [3], change)
        text = "def told(xs):\n    row = []\n    row = xs\n    row.append(1)\n    many = 0\n    many += 1"
        self.assertEqual(foreign_changes(ast.parse(text).body[0]), [4])

    def test_no_imports_in_a_circle(self):
        asked = {}
        for name in self.trees:
            asked[name] = {node.module.split(".")[1] for node in self.own_imports(name)}
        while asked:
            free = [name for name in asked if not asked[name]]
            self.assertTrue(free, asked)
            asked = {name: asked[name] - set(free) for name in asked if name not in free}

    def test_is_and_strings(self):
        for name, node in self.nodes(ast.Compare):
            for sign, other in zip(node.ops, node.comparators):
                if isinstance(sign, (ast.Is, ast.IsNot)):
                    self.assertIsInstance(other, ast.Constant, (name, node.lineno))
        for name, node in self.nodes(ast.Constant):
            if isinstance(node.value, str):
                self.assertNotIn("%", node.value, (name, node.lineno))

    def test_attributes_and_methods_have_unlike_names(self):
        methods, attributes = set(), set()
        for _, node in self.nodes(ast.ClassDef):
            for one in node.body:
                if isinstance(one, ast.FunctionDef):
                    methods.add(one.name)
        for _, node in self.nodes(ast.Attribute):
            if isinstance(node.ctx, ast.Store):
                attributes.add(node.attr)
        self.assertFalse(methods & attributes)
        for kind in (str, int, list, dict, set, bytes, tuple):
            self.assertFalse((attributes | methods - DOUBLE) & set(dir(kind)) - {"index", "count"}, kind)


if __name__ == "__main__":
    unittest.main()
