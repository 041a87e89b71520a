"""The rules of LANGUAGE.md that can be seen in the code; the numbers are those of the rules."""

import ast
import builtins
import os
import unittest
import warnings

ROOT = os.path.join(os.path.dirname(os.path.dirname(os.path.abspath(__file__))), "allstreams")

LIBRARY = {"math": {"gcd", "lcm", "isqrt", "comb", "perm", "factorial"}}
BUILTINS = set(
    "len range enumerate zip min max sum abs sorted reversed int str bool list tuple dict isinstance ord repr any all"
    " getattr divmod Exception ValueError TypeError KeyError IndexError LookupError ZeroDivisionError ArithmeticError"
    " OverflowError RuntimeError NotImplementedError AttributeError NotImplemented".split()
)
OPERATORS = set(
    "__lt__ __le__ __gt__ __ge__ __ne__ __add__ __sub__ __mul__ __floordiv__ __mod__ __pow__ __radd__ __rsub__"
    " __rmul__ __neg__ __pos__ __invert__ __abs__ __bool__ __contains__".split()
)
QUIET = OPERATORS | {"__eq__", "__str__", "__repr__", "__len__"}
DOUBLE = QUIET | {"__init__"}
METHODS = set(
    "append clear copy count endswith extend find get index insert isalnum isalpha isdigit islower isspace isupper"
    " items join keys ljust lower lstrip partition pop remove replace reverse rfind rjust rpartition rsplit rstrip"
    " setdefault split splitlines startswith strip update upper values zfill bit_length".split()
)
CHANGING = set("append clear extend insert pop remove reverse setdefault update add discard sort".split())
BARRED = set(
    "register mro elements open input law version_info with_traceback add_note attrgetter breakpoint builtins compile"
    " copyright credits delattr dir eval exec exit gc globals help id importlib license locals methodcaller os quit"
    " super type vars".split()
)
WORDS = set(
    "type typing typing_extensions enum Enum IntEnum StrEnum Flag IntFlag Generic Protocol ABC ABCMeta namedtuple"
    " NamedTuple TypedDict TYPE_CHECKING abstractmethod".split()
)
AT_ONCE = {"zip", "enumerate", "reversed", "range"}
TAKERS = {"list", "tuple", "dict", "sorted", "sum", "any", "all", "enumerate", "zip", "min", "max", "len"}
FORBIDDEN = (
    ast.Global, ast.AsyncFunctionDef, ast.Await, ast.Set, ast.SetComp, ast.GeneratorExp, ast.Lambda, ast.Import,
    ast.AnnAssign, ast.Yield, ast.YieldFrom, ast.AsyncFor,
)


def files():
    found = []
    for folder, _, names in os.walk(ROOT):
        found += [os.path.join(folder, name) for name in sorted(names) if "__pycache__" not in folder]
    return found


def functions_in(tree):
    return [node for node in ast.walk(tree) if isinstance(node, ast.FunctionDef)]


def parameters(function):
    told = function.args
    return [one.arg for one in [*told.posonlyargs, *told.args, *told.kwonlyargs]]


def bound_names(function):
    """Parameters, and all that is assigned to in a function."""
    stored = [node.id for node in ast.walk(function) if isinstance(node, ast.Name) and isinstance(node.ctx, ast.Store)]
    return [*parameters(function), *stored]


def is_fresh(value):
    """Whether an assignment makes a list or a dict of its own.

    [0] * n is none: beside a class that multiplies, the sign may be any class's.
    """
    if isinstance(value, (ast.List, ast.ListComp, ast.Dict, ast.DictComp)):
        return True
    if isinstance(value, ast.Call) and isinstance(value.func, ast.Name):
        return value.func.id in ("list", "dict", "sorted")
    if isinstance(value, ast.BinOp) and isinstance(value.op, ast.Add):
        return is_fresh(value.left) and is_fresh(value.right)
    return isinstance(value, ast.Subscript) and isinstance(value.slice, ast.Slice)


def assigned(function):
    """Pairs of a local name and what it is assigned."""
    for node in ast.walk(function):
        if isinstance(node, ast.Assign):
            for target in node.targets:
                if isinstance(target, ast.Name):
                    yield target.id, node.value
                elif isinstance(target, ast.Tuple):
                    same = isinstance(node.value, ast.Tuple) and len(node.value.elts) == len(target.elts)
                    values = node.value.elts if same else [None] * len(target.elts)
                    for one, value in zip(target.elts, values):
                        if isinstance(one, ast.Name):
                            yield one.id, value


def own_lists(function):
    """The local names that are only ever assigned lists or dicts of their own."""
    values = {}
    for name, value in assigned(function):
        values.setdefault(name, []).append(value)
    barred = parameters(function)
    return {name for name, told in values.items() if name not in barred and all(is_fresh(value) for value in told)}


class Rules(unittest.TestCase):
    @classmethod
    def setUpClass(cls):
        cls.texts, cls.trees = {}, {}
        for path in files():
            with open(path, encoding="utf-8") as file:
                cls.texts[path] = file.read()
            with warnings.catch_warnings():
                warnings.simplefilter("error")
                cls.trees[path] = ast.parse(cls.texts[path])
                compile(cls.texts[path], path, "exec")

    def wrong(self, found):
        self.assertEqual(found, [])

    def each(self, kind):
        for path, tree in self.trees.items():
            for node in ast.walk(tree):
                if isinstance(node, kind):
                    yield f"{os.path.basename(path)}:{getattr(node, 'lineno', 0)}", node

    def test_files(self):
        """L1, L10, L14."""
        self.assertTrue(os.path.isfile(os.path.join(ROOT, "__init__.py")))
        self.assertLessEqual(len(self.texts), 100)
        for path, text in self.texts.items():
            name = os.path.basename(path)
            self.assertTrue(name.endswith(".py") and name == name.lower(), path)
            self.assertNotIn(name[:-3], dir(builtins))
            lines = text.split("\n")
            self.assertLess(len(lines), 400, path)
            self.assertLessEqual(max(len(line) for line in lines), 120, path)
            self.assertTrue(all(sign == "\n" or " " <= sign <= "~" for sign in text), path)

    def test_functions_are_short(self):
        """L10, L4."""
        for place, node in self.each(ast.FunctionDef):
            self.assertLessEqual(node.end_lineno - node.lineno + 1, 40, place)
            self.assertEqual([node.decorator_list, node.args.vararg, node.args.kwarg], [[], None, None], place)
            for default in [*node.args.defaults, *node.args.kw_defaults]:
                self.assertTrue(isinstance(default, ast.Constant) or ast.unparse(default) == "()", place)

    def test_statements_and_values(self):
        """L6, L7, L21, L23 Generators, L24: what the program does without."""
        self.wrong([place for place, _ in self.each(FORBIDDEN)])
        self.wrong([place for place, node in self.each(ast.BinOp) if isinstance(node.op, ast.Div)])
        self.wrong([place for place, node in self.each(ast.Constant) if isinstance(node.value, (float, complex, bytes))])
        self.wrong([place for place, node in self.each(ast.FunctionDef) if node.returns])
        self.wrong([place for place, node in self.each(ast.arg) if node.annotation])

    def test_imports(self):
        """L2, L16: from the very file that defines the name, and never round in a ring."""
        needs = {}
        for path, tree in self.trees.items():
            here = "allstreams." + os.path.basename(path)[:-3]
            needs[here] = []
            for node in ast.walk(tree):
                if isinstance(node, ast.ImportFrom):
                    self.assertIn(node, tree.body)
                    self.assertEqual((node.level, [one.asname for one in node.names]), (0, [None] * len(node.names)))
                    names = [one.name for one in node.names]
                    if node.module in LIBRARY:
                        self.assertLessEqual(set(names), LIBRARY[node.module])
                        continue
                    needs[here].append(node.module)
                    source = self.trees[os.path.join(ROOT, node.module.split(".")[1] + ".py")]
                    defined = [one.name for one in source.body if hasattr(one, "name")]
                    defined += [one.targets[0].id for one in source.body if isinstance(one, ast.Assign)]
                    self.assertLessEqual(set(names), set(defined), path)
            used = {one.id for one in ast.walk(tree) if isinstance(one, ast.Name)}
            for node in ast.walk(tree):
                if isinstance(node, ast.ImportFrom):
                    self.assertLessEqual({one.name for one in node.names}, used, path)
        while needs:
            free = [name for name, told in needs.items() if not [one for one in told if one in needs]]
            self.assertTrue(free, needs)
            needs = {name: told for name, told in needs.items() if name not in free}

    def test_module_level(self):
        """L3, L15: names are bound once there, to plain values, functions and classes."""
        for path, tree in self.trees.items():
            bound = []
            for node in tree.body:
                if isinstance(node, ast.Assign):
                    self.assertEqual([type(one) for one in node.targets], [ast.Name])
                    bound.append(node.targets[0].id)
                elif isinstance(node, ast.ImportFrom):
                    bound += [one.name for one in node.names]
                elif isinstance(node, (ast.FunctionDef, ast.ClassDef)):
                    bound.append(node.name)
                else:
                    self.assertIsInstance(node, ast.Expr)
                    self.assertIsInstance(node.value, ast.Constant)
            self.assertEqual(len(bound), len(set(bound)), path)
            for function in functions_in(tree):
                self.wrong([(path, function.name, name) for name in bound_names(function) if name in bound])

    def test_names(self):
        """L8, L12, L15, L17, L20, L26: names that are used, and names that are given."""
        given = [(place, node.name) for place, node in self.each((ast.FunctionDef, ast.ClassDef))]
        given += [(place, name) for place, node in self.each(ast.FunctionDef) for name in bound_names(node)]
        for place, name in given:
            self.assertTrue(name in DOUBLE or not name.startswith("__"), (place, name))
            self.assertNotIn(name, BARRED, place)
            self.assertNotIn(name, set(dir(builtins)) - {"_"}, place)
            self.assertNotIn("_wall", name, place)
        for path, tree in self.trees.items():
            known = {one.name for one in ast.walk(tree) if hasattr(one, "name") and isinstance(one.name, str)}
            known |= {one.id for one in ast.walk(tree) if isinstance(one, ast.Name) and isinstance(one.ctx, ast.Store)}
            known |= {name for one in functions_in(tree) for name in parameters(one)}
            used = {one.id for one in ast.walk(tree) if isinstance(one, ast.Name) and isinstance(one.ctx, ast.Load)}
            self.assertLessEqual(used - known, BUILTINS, path)
            self.assertNotIn("_", used, path)
        for place, node in self.each(ast.Compare):
            if any(isinstance(one, (ast.Is, ast.IsNot)) for one in node.ops):
                self.assertTrue(all(isinstance(one, ast.Constant) for one in node.comparators), place)

    def test_words_in_strings(self):
        """L17, L27."""
        for place, node in self.each(ast.Constant):
            if isinstance(node.value, str):
                self.assertNotIn("%", node.value, place)
                self.assertFalse(set(node.value.split()) & WORDS, place)
        for text in self.texts.values():
            for word in ("dataclass", "overload", "contextmanager", "_wall"):
                self.assertNotIn(word, text)
        for place, node in self.each(ast.BinOp):
            if isinstance(node.op, ast.Pow):
                self.assertIsInstance(node.right, ast.Constant, place)
                self.assertLessEqual(node.right.value, 64, place)

    def test_methods(self):
        """L5, L18, L25, L26: methods that are called, and attributes beside them."""
        own, attributes = set(), {}
        for _, node in self.each(ast.ClassDef):
            own |= {one.name for one in node.body if isinstance(one, ast.FunctionDef)}
            stored = {
                one.attr for one in ast.walk(node) if isinstance(one, ast.Attribute) and isinstance(one.ctx, ast.Store)
            }
            self.assertNotIn(node.name, attributes)
            attributes[node.name] = stored
            self.assertFalse(stored & {one.name for one in node.body if isinstance(one, ast.FunctionDef)}, node.name)
            self.assertFalse(node.keywords or node.decorator_list, node.name)
        stored = set().union(*attributes.values())
        # Stricter than L18: no name is a method of one class and an attribute of another.
        self.assertFalse(stored & own)
        for place, node in self.each(ast.Call):
            if isinstance(node.func, ast.Attribute):
                self.assertIn(node.func.attr, own | METHODS, place)
                self.assertTrue(node.func.attr in own or not node.keywords, place)
        for place, node in self.each(ast.Attribute):
            self.assertIn(node.attr, own | METHODS | stored | {"__class__", "__name__"}, place)
            if isinstance(node.ctx, ast.Store):
                self.assertEqual(node.value.id, "self", place)
        builtin = set().union(*[dir(one) for one in (str, int, list, dict, set, bytes, tuple)]) - METHODS - DOUBLE
        self.assertFalse((own | stored) & builtin)

    def test_iterated_at_once(self):
        """L23."""
        for path, tree in self.trees.items():
            fine = set()
            for node in ast.walk(tree):
                if isinstance(node, (ast.For, ast.comprehension)):
                    fine.add(node.iter)
                if isinstance(node, ast.Call) and isinstance(node.func, ast.Name) and node.func.id in TAKERS:
                    fine |= set(node.args)
            for node in ast.walk(tree):
                if isinstance(node, ast.Call):
                    name = node.func.id if isinstance(node.func, ast.Name) else node.func.attr
                    if name in AT_ONCE or name in ("items", "keys", "values"):
                        self.assertIn(node, fine, (path, node.lineno))

    def test_keywords_of_builtins(self):
        """L22."""
        allowed = {"min": {"default", "key"}, "max": {"default", "key"}, "sorted": {"reverse", "key"},
                   "enumerate": {"start"}, "sum": {"start"}}
        for place, node in self.each(ast.Call):
            if isinstance(node.func, ast.Name) and node.func.id in BUILTINS:
                self.assertLessEqual({one.arg for one in node.keywords}, allowed.get(node.func.id, set()), place)

    def reached(self):
        """The functions that operators and their kin run, by the names that are called."""
        by_name, roots = {}, []
        for _, node in self.each(ast.ClassDef):
            for method in node.body:
                if isinstance(method, ast.FunctionDef):
                    name = node.name if method.name == "__init__" else method.name
                    by_name.setdefault(name, []).append(method)
                    if method.name in QUIET:
                        roots.append(method)
        for tree in self.trees.values():
            for node in tree.body:
                if isinstance(node, ast.FunctionDef):
                    by_name.setdefault(node.name, []).append(node)
        done = []
        while roots:
            function = roots.pop()
            if function not in done:
                done.append(function)
                for node in ast.walk(function):
                    if isinstance(node, ast.Call):
                        name = node.func.id if isinstance(node.func, ast.Name) else node.func.attr
                        roots += by_name.get(name, [])
        return done

    def test_operators_call_by_names_of_their_own(self):
        """L5 Operators: a function is looked at by its name, so no other one bears the name of one that they call."""
        bearers = {}
        for place, node in self.each((ast.FunctionDef, ast.ClassDef)):
            bearers.setdefault(node.name, []).append(place)
        for function in self.reached():
            for node in ast.walk(function):
                if isinstance(node, ast.Call) and isinstance(node.func, ast.Name):
                    self.assertLessEqual(len(bearers.get(node.func.id, [])), 1, bearers.get(node.func.id))

    def test_operators_change_nothing(self):
        """L5 Operators, L28: nor does what they call, but for lists that it made itself."""
        reached = self.reached()
        self.assertGreater(len(reached), 30)
        for function in reached:
            own, place = own_lists(function), function.name
            for node in ast.walk(function):
                if isinstance(node, ast.AugAssign):
                    self.assertIsInstance(node.target, ast.Name, place)
                    self.assertIsInstance(node.value, ast.Constant, place)
                    self.assertIsInstance(node.op, (ast.Add, ast.Sub), place)
                stores = isinstance(getattr(node, "ctx", None), (ast.Store, ast.Del))
                if stores and isinstance(node, ast.Attribute):
                    self.assertEqual(function.name, "__init__")
                if stores and isinstance(node, ast.Subscript):
                    self.assertIn(getattr(node.value, "id", None), own, place)
                if isinstance(node, ast.Call) and isinstance(node.func, ast.Attribute) and node.func.attr in CHANGING:
                    self.assertIn(getattr(node.func.value, "id", None), own, place)
                if isinstance(node, ast.Call) and isinstance(node.func, ast.Name):
                    self.assertNotIn(node.func.id, bound_names(function), place)

    def test_loops_leave_what_they_go_over(self):
        """L23: it is not changed within."""
        for place, node in self.each(ast.For):
            gone_over = {one.id for one in ast.walk(node.iter) if isinstance(one, ast.Name)}
            for one in [inner for line in node.body for inner in ast.walk(line)]:
                if isinstance(one, ast.Subscript) and isinstance(one.ctx, (ast.Store, ast.Del)):
                    self.assertNotIn(getattr(one.value, "id", None), gone_over, place)
                if isinstance(one, ast.Call) and isinstance(one.func, ast.Attribute) and one.func.attr in CHANGING:
                    self.assertNotIn(getattr(one.func.value, "id", None), gone_over, place)


if __name__ == "__main__":
    unittest.main()
