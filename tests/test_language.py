"""What a script can see of the subset of Python in which the package is written (the rules L1 to L28)."""

import ast
import builtins
import io
import os
import re
import tokenize
import unittest
import warnings

FOLDER = os.path.join(os.path.dirname(os.path.dirname(os.path.abspath(__file__))), "rodwebs")
PACKAGE = "rodwebs"
LIBRARY = {"heapq": {"heappush", "heappop", "heapify", "heapreplace", "heappushpop"},
           "math": {"gcd", "lcm", "isqrt", "comb", "perm", "factorial"},
           "itertools": {"product", "combinations", "permutations"}}
BUILTINS = set("""len range enumerate zip min max sum abs sorted reversed int str bool bytes list tuple dict set
    frozenset isinstance ord repr any all divmod iter next map property staticmethod classmethod super Exception
    ValueError TypeError KeyError IndexError LookupError ZeroDivisionError ArithmeticError OverflowError RuntimeError
    NotImplementedError AttributeError StopIteration NotImplemented""".split())
DOUBLE = set("""__init__ __eq__ __repr__ __str__ __len__ __enter__ __exit__ __call__ __iter__ __lt__ __le__ __gt__
    __ge__ __ne__ __neg__ __pos__ __invert__ __abs__ __bool__ __contains__ __getitem__ __setitem__ __pow__ __ipow__
    """.split())
DOUBLE |= {f"__{way}{sign}__" for way in ("", "r", "i") for sign in
           "add sub mul floordiv mod and or xor lshift rshift".split()}
METHODS = set("""append clear copy count endswith extend find get index insert isalnum isalpha isdigit islower isspace
    isupper items join keys ljust lower lstrip partition pop remove replace reverse rfind rjust rpartition rsplit
    rstrip setdefault split splitlines startswith strip update upper values zfill bit_length title capitalize swapcase
    casefold center expandtabs removeprefix removesuffix rindex isascii isdecimal isnumeric istitle isidentifier
    isprintable translate encode add discard sort""".split())
UNUSED = set("""register mro elements open input law version_info with_traceback add_note""".split())
UNUSED_NAMES = set("""attrgetter breakpoint builtins compile copyright credits delattr dir eval exec exit gc getattr
    globals hasattr help id importlib license locals methodcaller os quit setattr vars sys type""".split())
WORDS = set("""type typing typing_extensions enum Enum IntEnum StrEnum Flag IntFlag Generic Protocol ABC ABCMeta
    namedtuple NamedTuple TypedDict TYPE_CHECKING abstractmethod""".split())
STARTS = ("_wall", "_pe_", "_dcw_", "_enum_", "_cm_", "_twin_re_", "_lay_", "_law_", "_stub_", "_sre", "_WallAttr",
          "_cold", "_tuplegetter", "_outside", "_record", "_written_out", "_member_names")
CHANGING = set("append clear extend insert pop remove reverse setdefault sort update".split())
STATEMENTS = (ast.Assign, ast.AnnAssign, ast.AugAssign, ast.If, ast.While, ast.For, ast.Return, ast.Break,
              ast.Continue, ast.Pass, ast.Raise, ast.Assert, ast.Delete, ast.Nonlocal, ast.Match, ast.With, ast.Try,
              ast.Expr, ast.FunctionDef, ast.ClassDef, ast.ImportFrom)


def file_names():
    return sorted(name for name in os.listdir(FOLDER) if name != "__pycache__")


def text_of(name):
    with open(os.path.join(FOLDER, name), encoding="utf-8", newline="") as file:
        return file.read()


def trees():
    for name in file_names():
        with warnings.catch_warnings():
            warnings.simplefilter("error")
            yield name, ast.parse(text_of(name), name)


def docstrings(tree):
    found = set()
    for node in ast.walk(tree):
        if isinstance(node, (ast.Module, ast.ClassDef, ast.FunctionDef)) and node.body:
            first = node.body[0]
            if isinstance(first, ast.Expr) and isinstance(first.value, ast.Constant):
                found.add(first.value)
    return found


def bound_names(tree):
    """Every name that a file binds: variables, functions, classes, parameters, imports, caught errors."""
    for node in ast.walk(tree):
        if isinstance(node, ast.Name) and isinstance(node.ctx, (ast.Store, ast.Del)):
            yield node.id
        elif isinstance(node, (ast.FunctionDef, ast.ClassDef)):
            yield node.name
        elif isinstance(node, ast.arg):
            yield node.arg
        elif isinstance(node, ast.alias):
            yield node.asname or node.name
        elif isinstance(node, ast.ExceptHandler) and node.name:
            yield node.name


def functions(tree):
    return [node for node in ast.walk(tree) if isinstance(node, ast.FunctionDef)]


def decorators(function):
    """The decorators of a function as texts, such as `property` and `limit.setter`."""
    return [ast.unparse(node) for node in function.decorator_list]


def parents(tree):
    return {inner: node for node in ast.walk(tree) for inner in ast.iter_child_nodes(node)}


class Files(unittest.TestCase):
    def test_names(self):
        """L1, L14: plain .py files with lower-case names, and nothing else."""
        names = file_names()
        self.assertIn("__init__.py", names)
        self.assertLessEqual(len(names), 100)
        for name in names:
            self.assertTrue(os.path.isfile(os.path.join(FOLDER, name)), name)
            self.assertRegex(name, r"^[a-z0-9_]+\.py$")
            stem = name[:-3]
            self.assertFalse(stem.startswith(("law_", "test_")), name)
            self.assertNotIn(stem, {"test", "tests", "testing", "site", "conftest", "sitecustomize", "usercustomize",
                                    "heapq", "math", "itertools"} | UNUSED | set(dir(builtins)))

    def test_characters(self):
        """L10, L14: the characters, and the length of lines and files."""
        for name in file_names():
            text = text_of(name)
            self.assertEqual(set(re.findall(r"[^ -~\n]", text)), set(), name)
            lines = text.split("\n")
            self.assertLessEqual(len(lines) - 1, 399, name)
            self.assertTrue(text.endswith("\n"), name)
            for number, line in enumerate(lines, 1):
                self.assertLessEqual(len(line), 120, (name, number))

    def test_functions(self):
        """L10: at most 40 lines in a function."""
        for name, tree in trees():
            for node in functions(tree):
                self.assertLessEqual(node.end_lineno - node.lineno + 1, 40, (name, node.name))


class Imports(unittest.TestCase):
    def test_form(self):
        """L2, L16: imports stand at the top, from the file that defines the name, and never under another name."""
        defined = {}
        for name, tree in trees():
            defined[f"{PACKAGE}.{name[:-3]}"] = {
                part.name for part in tree.body if isinstance(part, (ast.FunctionDef, ast.ClassDef))
            } | {target.id for part in tree.body if isinstance(part, ast.Assign) for target in part.targets}
        for name, tree in trees():
            code = [part for part in tree.body if not (isinstance(part, ast.Expr))]
            head = [part for part in code if isinstance(part, ast.ImportFrom)]
            self.assertEqual(code[:len(head)], head, name)
            everywhere = [node for node in ast.walk(tree) if isinstance(node, (ast.Import, ast.ImportFrom))]
            self.assertEqual(everywhere, head, name)
            for part in head:
                self.assertEqual(part.level, 0, name)
                known = LIBRARY.get(part.module) or defined.get(part.module)
                self.assertIsNotNone(known, (name, part.module))
                for alias in part.names:
                    self.assertIsNone(alias.asname, name)
                    self.assertIn(alias.name, known, name)

    def test_no_circles(self):
        """L16: no two files import from each other, neither directly nor through other files."""
        needs = {}
        for name, tree in trees():
            needs[f"{PACKAGE}.{name[:-3]}"] = {part.module for part in tree.body if isinstance(part, ast.ImportFrom)}
        left = dict(needs)
        while left:
            free = [name for name in left if not left[name] & set(left)]
            self.assertTrue(free, left)
            for name in free:
                del left[name]

    def test_all_imports_are_used(self):
        for name, tree in trees():
            used = {node.id for node in ast.walk(tree) if isinstance(node, ast.Name)}
            for part in tree.body:
                if isinstance(part, ast.ImportFrom):
                    for alias in part.names:
                        self.assertIn(alias.name, used, name)

    def test_library_is_only_called(self):
        """L2: names of the library are called by their bare names, in functions, by position."""
        for name, tree in trees():
            taken = {alias.name for part in tree.body if isinstance(part, ast.ImportFrom) and part.module in LIBRARY
                     for alias in part.names}
            called = [node for node in ast.walk(tree) if isinstance(node, ast.Call)
                      and isinstance(node.func, ast.Name) and node.func.id in taken]
            for node in called:
                self.assertFalse(node.keywords, name)
                self.assertFalse([part for part in node.args if isinstance(part, ast.Starred)], name)
            uses = [node for node in ast.walk(tree) if isinstance(node, ast.Name) and node.id in taken]
            self.assertEqual(len(uses), len(called), name)
            self.assertFalse({"product", "combinations", "permutations"} & taken, name)


class Statements(unittest.TestCase):
    def test_module_level(self):
        """L3, L15: docstring, imports, functions, classes and names that are assigned once."""
        for name, tree in trees():
            seen = []
            for at, part in enumerate(tree.body):
                if isinstance(part, ast.Expr):
                    self.assertTrue(at == 0 and isinstance(part.value, ast.Constant), name)
                elif isinstance(part, ast.Assign):
                    self.assertEqual(len(part.targets), 1, name)
                    self.assertIsInstance(part.targets[0], ast.Name, name)
                    ast.literal_eval(part.value)
                    seen.append(part.targets[0].id)
                elif isinstance(part, ast.ImportFrom):
                    seen.extend(alias.name for alias in part.names)
                else:
                    self.assertIsInstance(part, (ast.FunctionDef, ast.ClassDef), name)
                    seen.append(part.name)
            self.assertEqual(len(seen), len(set(seen)), name)

    def test_allowed(self):
        """L4, L6, L7: only the allowed statements; no decorators but those of methods; no annotations."""
        for name, tree in trees():
            for node in ast.walk(tree):
                if isinstance(node, ast.stmt):
                    self.assertIsInstance(node, STATEMENTS, (name, node.lineno))
                if isinstance(node, ast.FunctionDef):
                    self.assertLessEqual(len(node.decorator_list), 1)
                    for decorator in decorators(node):
                        self.assertIn(decorator, ("property", "staticmethod", "classmethod", node.name + ".setter"))
                    self.assertIsNone(node.returns)
                if isinstance(node, ast.arg):
                    self.assertIsNone(node.annotation)
                if isinstance(node, ast.ClassDef):
                    self.assertFalse(node.decorator_list or node.keywords, name)
                self.assertNotIsInstance(node, (ast.AnnAssign, ast.Await, ast.Match), name)

    def test_no_sum_in_place(self):
        """L5: a class with `record += lists` bars `+=` from all that operators run, so it stands nowhere."""
        for name, tree in trees():
            for node in ast.walk(tree):
                self.assertNotIsInstance(node, ast.AugAssign, (name, getattr(node, "lineno", 0)))

    def test_numbers_and_signs(self):
        """L7, L27: no floats and no `/`; powers only with literal exponents."""
        for name, tree in trees():
            for node in ast.walk(tree):
                if isinstance(node, ast.Constant):
                    self.assertNotIsInstance(node.value, (float, complex), name)
                if isinstance(node, ast.BinOp):
                    self.assertNotIsInstance(node.op, (ast.Div, ast.MatMult), (name, node.lineno))
                    if isinstance(node.op, ast.Pow):
                        self.assertIsInstance(node.right, ast.Constant, (name, node.lineno))
                        self.assertIn(node.right.value, range(65))

    def test_least_and_greatest(self):
        """L5: as Frac has an order, `min` and `max` have an argument that is plainly an integer; so has `sorted`."""
        for name, tree in trees():
            for node in ast.walk(tree):
                if isinstance(node, ast.Call) and isinstance(node.func, ast.Name) and node.func.id in (
                        "min", "max", "sorted"):
                    given = [arg.elt if isinstance(arg, ast.ListComp) else arg for arg in node.args]
                    plain = [arg for arg in given if isinstance(arg, ast.Constant) or isinstance(arg, ast.Call)
                             and isinstance(arg.func, ast.Name) and arg.func.id in ("len", "int")]
                    self.assertTrue(plain, (name, node.lineno))

    def test_no_names_in_comparisons(self):
        """L28: `==`, texts and lengths assign nothing."""
        for name, tree in trees():
            for node in functions(tree):
                if node.name in ("__eq__", "__str__", "__repr__", "__len__"):
                    for part in ast.walk(node):
                        self.assertNotIsInstance(part, (ast.Assign, ast.For, ast.While), (name, node.lineno))

    def test_is(self):
        """L20: `is` beside None, True and False only."""
        for name, tree in trees():
            for node in ast.walk(tree):
                if isinstance(node, ast.Compare):
                    for sign, right in zip(node.ops, node.comparators):
                        if isinstance(sign, (ast.Is, ast.IsNot)):
                            self.assertIsInstance(right, ast.Constant, (name, node.lineno))

    def test_strings(self):
        """L17, L27: what no string contains."""
        for name, tree in trees():
            known = docstrings(tree)
            for node in ast.walk(tree):
                if isinstance(node, ast.Constant) and isinstance(node.value, str):
                    self.assertNotIn("%", node.value, name)
                    self.assertFalse(node.value.endswith(("._", ".__")), name)
                    if node not in known:
                        self.assertFalse(node.value.startswith("__") and node.value.endswith("__"), name)

    def test_escapes(self):
        """L27: no escapes but those of a newline, a tab, a backslash and a quote."""
        for name in file_names():
            for token in tokenize.generate_tokens(io.StringIO(text_of(name)).readline):
                if token.type == tokenize.STRING:
                    self.assertEqual(re.findall(r"\\[^nt\\'\"]", token.string), [], (name, token.start))
                    self.assertRegex(token.string, r"^[f]?[\"']", (name, token.start))

    def test_generators(self):
        """L7, L23: no generator expressions, as classes have `==`; one method yields, and nothing else has its name."""
        yielding, named, called = [], [], []
        for name, tree in trees():
            for node in ast.walk(tree):
                self.assertNotIsInstance(node, (ast.GeneratorExp, ast.YieldFrom, ast.Lambda), name)
                if isinstance(node, (ast.FunctionDef, ast.ClassDef)):
                    named.append(node.name)
                if isinstance(node, ast.Attribute):
                    called.append(node.attr)
            for node in functions(tree):
                if [part for part in ast.walk(node) if isinstance(part, ast.Yield)]:
                    yielding.append((name, node.name))
                    self.assertFalse(node.decorator_list)
        self.assertEqual(yielding, [("records.py", "states")])
        self.assertEqual(named.count("states"), 1)
        # It is not called in the package, and no attribute has its name.
        self.assertNotIn("states", called)

    def test_iterated_at_once(self):
        """L23: ranges, zips, views and the like are iterated where they stand: not kept, passed on or returned."""
        takers = {"list", "tuple", "dict", "sorted", "sum", "any", "all", "enumerate", "zip", "min", "max"}
        for name, tree in trees():
            above = parents(tree)
            for node in ast.walk(tree):
                if not isinstance(node, ast.Call):
                    continue
                # What a call returns is called by a name only (L5 Callable objects).
                self.assertIsInstance(node.func, (ast.Name, ast.Attribute), (name, node.lineno))
                title = node.func.id if isinstance(node.func, ast.Name) else node.func.attr
                if title not in ("range", "zip", "enumerate", "reversed", "items", "values", "keys"):
                    continue
                holder = above[node]
                if isinstance(holder, (ast.For, ast.comprehension)):
                    self.assertIs(holder.iter, node, (name, node.lineno))
                else:
                    self.assertIsInstance(holder, ast.Call, (name, node.lineno))
                    self.assertIsInstance(holder.func, ast.Name, (name, node.lineno))
                    self.assertIn(holder.func.id, takers, (name, node.lineno))

    def test_stars(self):
        """L7: behind the star of a call stand names and attributes off names."""
        for name, tree in trees():
            for node in ast.walk(tree):
                if isinstance(node, ast.Call):
                    for part in node.args:
                        if isinstance(part, ast.Starred):
                            self.assertIsInstance(part.value, (ast.Name, ast.Attribute), (name, node.lineno))
                    self.assertTrue(all(part.arg for part in node.keywords), (name, node.lineno))

    def test_iteration(self):
        """L5, L28: objects are iterated over by one return, and have the length of what they hold."""
        for name, tree in trees():
            for node in functions(tree):
                text = ast.unparse(node.body[-1])
                if node.name == "__iter__":
                    self.assertEqual(len(node.body), 1)
                    self.assertRegex(text, r"^return iter\(self(\.\w+){1,2}\)$")
                if node.name == "__len__":
                    self.assertEqual(len(node.body), 1)
                    self.assertRegex(text, r"^return len\(self(\.\w+){1,2}\)$")

    def test_context_managers(self):
        """L6: what ends a with statement only assigns attributes, and does not look at the error."""
        ended = []
        for name, tree in trees():
            for node in functions(tree):
                if node.name == "__exit__":
                    ended.append(name)
                    self.assertEqual([part.arg for part in node.args.args], ["self", "kind", "value", "trace"])
                    for part in node.body:
                        self.assertIsInstance(part, ast.Assign, (name, part.lineno))
                        for side in (part.value, *part.targets):
                            self.assertIsInstance(side, ast.Attribute, (name, part.lineno))
                if node.name == "__enter__":
                    self.assertEqual([part.arg for part in node.args.args], ["self"])
        self.assertEqual(ended, ["desk.py"])

    def test_errors(self):
        """L19: errors are created where they are raised, and own errors only are caught."""
        for name, tree in trees():
            for node in ast.walk(tree):
                if isinstance(node, ast.Raise):
                    self.assertIsInstance(node.exc, ast.Call, (name, node.lineno))
                    self.assertFalse(node.exc.keywords, (name, node.lineno))
                if isinstance(node, ast.ExceptHandler):
                    self.assertIsInstance(node.type, ast.Name, (name, node.lineno))
                    self.assertFalse(hasattr(builtins, node.type.id), (name, node.lineno))

    def test_what_operators_run(self):
        """L5: what an operator or a property runs calls no object and changes nothing but lists and dicts of its own.

        All functions and methods are followed, by their names, that may be run; in-place operators may change.
        """
        bodies, started, classes = {}, [], set()
        for _, tree in trees():
            classes |= {node.name for node in ast.walk(tree) if isinstance(node, ast.ClassDef)}
            for node in functions(tree):
                bodies.setdefault(node.name, []).append(node)
                free = ("__init__", "__call__", "__iadd__", "__enter__", "__exit__")
                if node.name.startswith("__") and node.name not in free or "property" in decorators(node):
                    started.append(node.name)
        seen = set()
        while started:
            title = started.pop()
            if title not in seen:
                seen.add(title)
                for node in bodies[title]:
                    # A property that is assigned may change what it likes.
                    if title + ".setter" not in decorators(node):
                        started.extend(self.run_by(node, bodies, classes))
        self.assertLessEqual({"product", "energy", "reduced", "applied", "parts", "energy_inside"}, seen)

    def run_by(self, function, bodies, classes):
        own = set()
        for node in ast.walk(function):
            if isinstance(node, ast.Assign) and isinstance(node.targets[0], ast.Name):
                made = node.value.func.id if isinstance(node.value, ast.Call) and isinstance(
                    node.value.func, ast.Name) else ""
                if isinstance(node.value, (ast.List, ast.ListComp, ast.Dict)) or made in ("list", "dict", "sorted"):
                    own.add(node.targets[0].id)
        for node in ast.walk(function):
            if isinstance(node, (ast.Attribute, ast.Subscript)) and not isinstance(node.ctx, ast.Load):
                self.assertIsInstance(node, ast.Subscript, (function.name, node.lineno))
                self.assertIn(node.value.id, own, (function.name, node.lineno))
            if isinstance(node, ast.Call):
                inner = node.func.id if isinstance(node.func, ast.Name) else node.func.attr
                if inner in CHANGING:
                    self.assertIn(node.func.value.id, own, (function.name, node.lineno))
                elif inner in bodies:
                    yield inner
                elif inner not in classes:
                    self.assertIn(inner, BUILTINS | METHODS | LIBRARY["math"], (function.name, node.lineno))


class Names(unittest.TestCase):
    def test_bound(self):
        """L8, L12, L15, L17: names of builtins, of Python's own parts and with two underscores are not bound."""
        for name, tree in trees():
            methods = {part.name for node in ast.walk(tree) if isinstance(node, ast.ClassDef) for part in node.body
                       if isinstance(part, ast.FunctionDef)}
            for bound in bound_names(tree):
                self.assertRegex(bound, r"^[A-Za-z0-9_]+$")
                self.assertNotIn(bound, UNUSED | UNUSED_NAMES, name)
                if bound in methods:
                    continue
                # Python itself keeps what was shown last under the name "_".
                self.assertFalse(bound != "_" and hasattr(builtins, bound), (name, bound))
                self.assertFalse(bound.startswith(STARTS), (name, bound))
                self.assertTrue(bound == "_" or re.match(r"^_?[A-Za-z]", bound), (name, bound))

    def test_double_underscores(self):
        """L5, L8: only the double-underscore methods of the rules, and none of them called by name."""
        for name, tree in trees():
            for node in functions(tree):
                if node.name.startswith("__"):
                    self.assertIn(node.name, DOUBLE, name)
            for node in ast.walk(tree):
                if isinstance(node, ast.Attribute) and node.attr.startswith("__"):
                    self.assertEqual(node.attr, "__init__", (name, node.lineno))
                if isinstance(node, ast.Name):
                    self.assertFalse(node.id.startswith("__"), (name, node.id))

    def test_builtins(self):
        """L8: only the listed builtins are used."""
        for name, tree in trees():
            bound = set(bound_names(tree))
            for node in ast.walk(tree):
                if isinstance(node, ast.Name) and node.id not in bound:
                    self.assertIn(node.id, BUILTINS, (name, node.lineno))

    def test_methods(self):
        """L25, L26: a method that is called is the package's own or one of the listed ones of builtin values."""
        own = set()
        for _, tree in trees():
            own |= {node.name for node in functions(tree)} | {"__init__"}
        # Attributes that hold an object that is called.
        own |= {"top", "bottom", "table"}
        for name, tree in trees():
            for node in ast.walk(tree):
                if isinstance(node, ast.Call) and isinstance(node.func, ast.Attribute):
                    self.assertIn(node.func.attr, own | METHODS, (name, node.lineno))

    def test_words(self):
        """L17: words that stand only in comments and docstrings."""
        for name, tree in trees():
            known = docstrings(tree)
            for node in ast.walk(tree):
                for part in (getattr(node, "id", ""), getattr(node, "attr", ""), getattr(node, "name", "")):
                    self.assertNotIn(part, WORDS, name)
                if isinstance(node, ast.Constant) and isinstance(node.value, str) and node not in known:
                    self.assertFalse(set(re.findall(r"\w+", node.value)) & WORDS, name)

    def test_imports_are_not_hidden(self):
        """L15: no parameter, local variable or nested function has the name of a class or an import of its file."""
        for name, tree in trees():
            top = {alias.name for part in tree.body if isinstance(part, ast.ImportFrom) for alias in part.names}
            top |= {part.name for part in tree.body if isinstance(part, ast.ClassDef)}
            for function in functions(tree):
                inner = [bound for part in [function.args, *function.body] for bound in bound_names(part)]
                self.assertFalse(top & set(inner), (name, function.name))

    def test_methods_and_attributes(self):
        """L5, L18: static and class methods, properties and class values share their names with nothing."""
        attributes, plain, fixed, settable = set(), set(), {}, set()
        for _, tree in trees():
            for node in ast.walk(tree):
                if isinstance(node, ast.Attribute) and isinstance(node.ctx, ast.Store):
                    attributes.add(node.attr)
                if isinstance(node, ast.ClassDef):
                    methods = [part for part in node.body if isinstance(part, ast.FunctionDef)]
                    setters = [part for part in methods if part.name + ".setter" in decorators(part)]
                    for part in setters:
                        # The setter stands below the property of its name, with just one parameter of its own.
                        above = methods[methods.index(part) - 1]
                        self.assertEqual((above.name, decorators(above)), (part.name, ["property"]))
                        self.assertEqual(len(part.args.args), 2)
                        settable.add(part.name)
                    names = [part.name for part in methods if part not in setters]
                    self.assertEqual(len(names), len(set(names)), node.name)
                    for part in node.body:
                        if part in setters:
                            continue
                        if isinstance(part, ast.FunctionDef) and part.decorator_list:
                            fixed.setdefault(part.name, set()).add(part.decorator_list[0].id)
                        elif isinstance(part, ast.FunctionDef):
                            plain.add(part.name)
                        if isinstance(part, ast.Assign):
                            fixed.setdefault(part.targets[0].id, set()).add("value")
        self.assertEqual(settable, {"limit"})
        self.assertFalse(set(fixed) & (plain | (attributes - settable) | METHODS))
        self.assertFalse(attributes & plain)
        # Several classes may have one name for things of one kind, as static methods called "of".
        self.assertEqual([name for name in fixed if len(fixed[name]) > 1], [])
        self.assertFalse(attributes & {"items", "keys", "values", "pop", "update", "append", "clear", "extend",
                                       "insert", "remove", "reverse", "setdefault", "sort", "args", "encode",
                                       "decode", "hex", "fromhex", "format", "format_map", "mro"})


if __name__ == "__main__":
    unittest.main()
