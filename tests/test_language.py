"""What of the rules of the language can be counted plainly, for each file of the package."""

import ast
import builtins
import io
import os
import tokenize
import unittest
import warnings

PACKAGE = os.path.join(os.path.dirname(os.path.dirname(os.path.abspath(__file__))), "closereckoned")
FILES = sorted(name for name in os.listdir(PACKAGE) if name != "__pycache__")

LIBRARY = {"math": {"gcd", "lcm", "isqrt", "comb", "perm", "factorial"}}
ALLOWED_BUILTINS = set(
    "len range enumerate zip min max sum abs sorted reversed int str bool list tuple dict set isinstance ord repr any all"
    " divmod iter ValueError TypeError property classmethod".split())
DOUBLES = set(
    "__init__ __eq__ __repr__ __str__ __len__ __call__ __iter__ __lt__ __le__ __gt__ __ge__ __ne__ __add__ __sub__ __mul__"
    " __and__ __or__ __xor__ __invert__ __neg__ __bool__ __contains__ __getitem__ __setitem__".split())
METHODS = set(
    "append clear copy count endswith extend find get index insert isalnum isalpha isdigit islower isspace isupper items"
    " join keys ljust lower lstrip partition pop remove replace reverse rfind rjust rpartition rsplit rstrip setdefault"
    " split splitlines startswith strip update upper values zfill bit_length".split())
BARRED_NAMES = set("register mro elements open input law version_info with_traceback add_note".split())
BARRED_VARIABLES = set(
    "attrgetter breakpoint builtins compile copyright credits delattr dir eval exec exit gc getattr globals hasattr help id"
    " importlib license locals methodcaller os quit setattr super type vars sys".split())
BARRED_WORDS = set(
    "type typing typing_extensions enum Enum IntEnum StrEnum Flag IntFlag Generic Protocol ABC ABCMeta namedtuple NamedTuple"
    " TypedDict TYPE_CHECKING abstractmethod".split())
BARRED_FILES = set("test tests testing site conftest sitecustomize usercustomize heapq math itertools".split())
NO_NODES = (
    ast.AsyncFunctionDef, ast.AsyncFor, ast.AsyncWith, ast.Await, ast.Global, ast.Nonlocal, ast.Lambda, ast.GeneratorExp,
    ast.Div, ast.MatMult, ast.AnnAssign, ast.With, ast.Match, ast.NamedExpr, ast.Delete, ast.YieldFrom)


def text_of(name):
    with open(os.path.join(PACKAGE, name), encoding="utf-8") as file:
        return file.read()


def tree_of(name):
    with warnings.catch_warnings():
        warnings.simplefilter("error")
        return ast.parse(text_of(name))


def parents_of(tree):
    return {child: node for node in ast.walk(tree) for child in ast.iter_child_nodes(node)}


def bound_in(node):
    """Names of parameters and local variables in a function."""
    found = [one.arg for one in ast.walk(node.args) if isinstance(one, ast.arg)]
    return found + [one.id for one in ast.walk(node) if isinstance(one, ast.Name) and not isinstance(one.ctx, ast.Load)]


class Language(unittest.TestCase):

    def files(self):
        return [(name, tree_of(name)) for name in FILES]

    def nodes(self, *kinds):
        for name, tree in self.files():
            for node in ast.walk(tree):
                if isinstance(node, kinds):
                    yield f"{name}:{getattr(node, 'lineno', 0)}", node

    def test_files(self):
        self.assertIn("__init__.py", FILES)
        self.assertLessEqual(len(FILES), 100)
        for name in FILES:
            self.assertRegex(name, r"\A(__init__|[a-z][a-z0-9_]*)\.py\Z")
            stem = name[:-3]
            self.assertNotIn(stem, BARRED_FILES | BARRED_NAMES | set(dir(builtins)))
            self.assertFalse(stem.startswith(("law_", "test_")))

    def test_sizes_and_characters(self):
        for name in FILES:
            lines = text_of(name).split("\n")
            self.assertLessEqual(len(lines), 399, name)
            for k, line in enumerate(lines):
                self.assertLessEqual(len(line), 120, f"{name}:{k + 1}")
                self.assertTrue(all(" " <= sign <= "~" for sign in line), f"{name}:{k + 1}")

    def test_functions_are_short(self):
        for where, node in self.nodes(ast.FunctionDef):
            self.assertLessEqual(node.end_lineno - node.lineno + 1, 40, where)

    def test_statements(self):
        for where, node in self.nodes(*NO_NODES):
            self.fail(f"{where} {type(node).__name__}")
        for where, node in self.nodes(ast.AugAssign):
            self.assertIsInstance(node.value, ast.Constant, where)
        for where, node in self.nodes(ast.Constant):
            self.assertNotIsInstance(node.value, (float, complex, bytes), where)

    def test_own_errors_alone_are_caught(self):
        own = {node.name for node in tree_of("errors.py").body if isinstance(node, ast.ClassDef)}
        for where, node in self.nodes(ast.Try):
            self.assertTrue(node.handlers and not node.orelse and not node.finalbody, where)
            for handler in node.handlers:
                self.assertIn(handler.type.id, own, where)
                # Its name is there to read its fields, and for nothing else.
                reads = [one for one in ast.walk(handler) if isinstance(one, ast.Attribute) and isinstance(one.value, ast.Name)]
                names = [one for one in ast.walk(handler) if isinstance(one, ast.Name) and one.id == handler.name]
                self.assertLessEqual(len(names), len([one for one in reads if one.value.id == handler.name]), where)
        for where, node in self.nodes(ast.Raise):
            self.assertTrue(isinstance(node.exc, ast.Call) and node.exc.func.id in own and not node.exc.keywords, where)

    def test_stars_in_calls(self):
        for where, node in self.nodes(ast.Call):
            for one in node.args:
                if isinstance(one, ast.Starred):
                    self.assertIsInstance(one.value, (ast.Name, ast.Tuple, ast.List), where)

    def test_module_level(self):
        for name, tree in self.files():
            bound = []
            for node in tree.body:
                if isinstance(node, ast.Expr):
                    self.assertIsInstance(node.value.value, str)
                elif isinstance(node, ast.Assign):
                    self.assertEqual(len(node.targets), 1)
                    self.assertIsInstance(ast.literal_eval(node.value), (int, str, tuple, dict))
                    bound.append(node.targets[0].id)
                elif isinstance(node, ast.ImportFrom):
                    bound += [one.name for one in node.names]
                else:
                    self.assertIsInstance(node, (ast.FunctionDef, ast.ClassDef))
                    bound.append(node.name)
            self.assertEqual(len(bound), len(set(bound)), name)
            self.assertFalse(set(bound) & set(dir(builtins)), name)

    def test_imports(self):
        for name, tree in self.files():
            for node in ast.walk(tree):
                self.assertNotIsInstance(node, ast.Import)
                if isinstance(node, ast.ImportFrom):
                    self.assertIn(node, tree.body)
                    self.imported(name, tree, node)

    def imported(self, name, tree, node):
        words = [one.name for one in node.names]
        self.assertTrue(node.level == 0 and all(one.asname is None for one in node.names))
        used = {one.id for one in ast.walk(tree) if isinstance(one, ast.Name)}
        self.assertLessEqual(set(words), used, name)
        if node.module in LIBRARY:
            self.assertLessEqual(set(words), LIBRARY[node.module])
            return
        package, _, stem = node.module.partition(".")
        self.assertEqual(package, "closereckoned")
        body = tree_of(f"{stem}.py").body
        defined = {one.name for one in body if isinstance(one, (ast.FunctionDef, ast.ClassDef))}
        defined |= {one.targets[0].id for one in body if isinstance(one, ast.Assign) and isinstance(one.value, ast.Constant)}
        self.assertLessEqual(set(words), defined)

    def test_no_circle_of_imports(self):
        ahead = {name: {f"{node.module.partition('.')[2]}.py" for node in tree.body
                        if isinstance(node, ast.ImportFrom) and node.module not in LIBRARY} for name, tree in self.files()}
        while ahead:
            free = [name for name, needed in ahead.items() if not needed & set(ahead)]
            self.assertTrue(free, ahead)
            ahead = {name: needed for name, needed in ahead.items() if name not in free}

    def test_names(self):
        for name, tree in self.files():
            imports = {one.name for node in tree.body if isinstance(node, ast.ImportFrom) for one in node.names}
            owned = {node.name for node in tree.body if isinstance(node, (ast.ClassDef, ast.FunctionDef))}
            for node in ast.walk(tree):
                if isinstance(node, ast.FunctionDef):
                    bound = set(bound_in(node))
                    self.assertFalse(bound & (imports | owned | set(dir(builtins)) | BARRED_VARIABLES), f"{name} {node.name}")
                    self.assertFalse((bound | {node.name}) & BARRED_NAMES, f"{name} {node.name}")
                    self.assertTrue(not node.name.startswith("__") or node.name in DOUBLES, f"{name} {node.name}")

    def test_builtins(self):
        for where, node in self.nodes(ast.Name):
            if node.id in dir(builtins):
                self.assertIn(node.id, ALLOWED_BUILTINS, where)
        for where, node in self.nodes(ast.Attribute):
            self.assertNotIn(node.attr, BARRED_NAMES, where)
            self.assertFalse(node.attr.startswith("__") and node.attr not in DOUBLES, where)

    def test_methods(self):
        own = {node.name for _, node in self.nodes(ast.FunctionDef)}
        for where, node in self.nodes(ast.Call):
            if isinstance(node.func, ast.Attribute):
                self.assertIn(node.func.attr, METHODS | own, where)

    def test_words(self):
        for name in FILES:
            for token in tokenize.generate_tokens(io.StringIO(text_of(name)).readline):
                if token.type == tokenize.NAME:
                    self.assertNotIn(token.string, BARRED_WORDS | BARRED_NAMES, f"{name}:{token.start[0]}")
                if token.type == tokenize.STRING and not token.string.startswith('"""'):
                    self.assertNotIn("%", token.string, f"{name}:{token.start[0]}")
                    self.assertFalse(BARRED_WORDS & set(token.string.strip('"').split()), f"{name}:{token.start[0]}")
            for word in ("(type)", "Meta", "metaclass=", "dataclass", "overload", "contextmanager", "_wall"):
                self.assertNotIn(word, text_of(name), name)

    def test_classes(self):
        for where, node in self.nodes(ast.ClassDef):
            self.assertFalse(node.decorator_list or node.keywords, where)
            names = [one.name for one in node.body if isinstance(one, ast.FunctionDef)]
            self.assertEqual(len(names), len(set(names)), where)
        for where, node in self.nodes(ast.FunctionDef):
            told = [one.id for one in node.decorator_list]
            self.assertIn(told, ([], ["property"], ["classmethod"]), where)

    def test_what_is_iterated_at_once(self):
        for name, tree in self.files():
            parents = parents_of(tree)
            generators = {"settings_of", "lots_of", "zip", "enumerate", "range", "reversed", "map"}
            for node in ast.walk(tree):
                if isinstance(node, ast.Call) and isinstance(node.func, ast.Name) and node.func.id in generators:
                    self.at_once(f"{name}:{node.lineno}", node, parents[node])
                if isinstance(node, (ast.Set, ast.SetComp)) or called(node, {"set"}):
                    self.assertTrue(called(parents[node], {"sorted", "len"}), f"{name}:{node.lineno}")

    def at_once(self, where, node, parent):
        if isinstance(parent, (ast.For, ast.comprehension)):
            self.assertIs(parent.iter, node, where)
        else:
            words = {"list", "tuple", "sorted", "sum", "any", "all"} | ({"reversed"} if called(node, {"range"}) else set())
            self.assertTrue(called(parent, words), where)

    def test_generators_are_for_callers_alone(self):
        generators = [node.name for _, node in self.nodes(ast.FunctionDef) if yields(node)]
        self.assertEqual(sorted(generators), ["lots_of", "settings_of"])
        for where, node in self.nodes(ast.Name):
            self.assertNotIn(node.id, generators, where)

    def test_operators_and_properties_reach_no_generator(self):
        runs = runs_of([tree for _, tree in self.files()])
        starts = [node for _, tree in self.files() for node in ast.walk(tree) if is_run_by_a_sign(node)]
        self.assertIn("__getitem__", [node.name for node in starts])
        for start in starts:
            found, new = [], [start]
            while new:
                found += new
                new = [node for node in {far for near in new for far in runs(near)} if node not in found]
            self.assertEqual([node.name for node in found if yields(node)], [], start.name)

    def test_operators_and_properties_change_nothing(self):
        runs = runs_of([tree for _, tree in self.files()])
        starts = [node for _, tree in self.files() for node in ast.walk(tree) if is_run_by_a_sign(node)]
        found, new = [], starts
        while new:
            found += new
            new = [node for node in {far for near in new for far in runs(near)} if node not in found]
        self.assertLessEqual({"least_cover", "links_from"}, {node.name for node in found})
        for node in found:
            self.assertEqual(changes_in(node), [], node.name)

    def test_any_and_all_take_lists(self):
        for where, node in self.nodes(ast.Call):
            if called(node, {"any", "all", "sum", "min", "max"}) and len(node.args) == 1:
                self.assertIsInstance(node.args[0], (ast.ListComp, ast.Name, ast.Attribute), where)

    def test_what_is_returned_by_len_and_iteration(self):
        for where, node in self.nodes(ast.FunctionDef):
            if node.name == "__iter__":
                told = node.body[-1].value
                self.assertTrue(called(told, {"iter"}) and isinstance(told.args[0], ast.Attribute), where)
                self.assertIsInstance(told.args[0].value, ast.Name, where)
            if node.name == "__len__":
                self.assertTrue(all(called(one.value, {"len"}) for one in ast.walk(node) if isinstance(one, ast.Return)), where)

    def test_is(self):
        for where, node in self.nodes(ast.Compare):
            for sign, side in zip(node.ops, node.comparators):
                if isinstance(sign, (ast.Is, ast.IsNot)):
                    self.assertIsInstance(side, ast.Constant, where)
                    self.assertIn(repr(side.value), ("None", "True", "False"), where)


def yields(node):
    return any(isinstance(one, (ast.Yield, ast.YieldFrom)) for one in ast.walk(node))


def is_run_by_a_sign(node):
    """Whether it is a property, or a method that an operator, len, str or a loop runs."""
    if not isinstance(node, ast.FunctionDef):
        return False
    told = [one.id for one in node.decorator_list]
    return told == ["property"] or node.name in DOUBLES - {"__init__", "__call__"}


def runs_of(trees):
    """A function that tells what a function may run: functions by their names, methods whatever object they are read off."""
    named, methods = {}, {}
    for tree in trees:
        for node in tree.body:
            if isinstance(node, ast.FunctionDef):
                named.setdefault(node.name, set()).add(node)
            if isinstance(node, ast.ClassDef):
                own = [one for one in node.body if isinstance(one, ast.FunctionDef)]
                named.setdefault(node.name, set()).update(one for one in own if one.name == "__init__")
                for one in own:
                    methods.setdefault(one.name, set()).add(one)

    def runs(node):
        asked = [one for call in ast.walk(node) if called(call, {"isinstance"}) for one in call.args[1:]]
        words = {one.id for one in ast.walk(node) if isinstance(one, ast.Name) and one not in asked} - set(bound_in(node))
        # The __init__ of a base is told by the name of the base, too.
        reads = {one.attr for one in ast.walk(node) if isinstance(one, ast.Attribute)} - {"__init__"}
        return {far for word in words for far in named.get(word, ())} | {far for word in reads for far in methods.get(word, ())}
    return runs


CHANGING = set("append clear extend insert pop remove reverse setdefault update add discard sort".split())


def changes_in(node):
    """What a function changes that it may not have made itself: by the lines."""
    found = []
    for one in ast.walk(node):
        targets = one.targets if isinstance(one, ast.Assign) else [one.target] if isinstance(one, ast.AugAssign) else []
        for target in targets:
            if isinstance(target, ast.Attribute) and (node.name != "__init__" or target.value.id != "self"):
                found.append(target.lineno)
            if isinstance(target, ast.Subscript) and not is_made_in(node, target.value):
                found.append(target.lineno)
        if isinstance(one, ast.Call) and isinstance(one.func, ast.Attribute) and one.func.attr in CHANGING:
            if not is_made_in(node, one.func.value):
                found.append(one.lineno)
    return found


def is_made_in(node, base):
    """Whether a list or dict is a local one, which the function is seen to make itself wherever it assigns it."""
    if isinstance(base, ast.Call) and isinstance(base.func, ast.Attribute) and base.func.attr == "setdefault":
        return isinstance(base.args[1], (ast.List, ast.Dict)) and is_made_in(node, base.func.value)
    if not isinstance(base, ast.Name) or base.id in [one.arg for one in ast.walk(node.args) if isinstance(one, ast.arg)]:
        return False
    told = [one for one in ast.walk(node) if isinstance(one, ast.Assign)
            and base.id in [name.id for target in one.targets for name in ast.walk(target) if isinstance(name, ast.Name)]
            and not isinstance(one.targets[0], ast.Subscript)]
    made = (ast.List, ast.Dict, ast.ListComp, ast.DictComp)
    return told != [] and all(isinstance(one.targets[0], ast.Name) and (
        isinstance(one.value, made) or called(one.value, {"list", "dict", "sorted"}) or (
            isinstance(one.value, ast.BinOp) and isinstance(one.value.op, ast.Mult) and isinstance(one.value.left, ast.List)))
        for one in told)


def called(node, words):
    return isinstance(node, ast.Call) and isinstance(node.func, ast.Name) and node.func.id in words


if __name__ == "__main__":
    unittest.main()
