"""Rules of the language subset that can be seen in the files of the package one by one, or in all names together."""

import ast
import pathlib
import re
import unittest

PACKAGE = pathlib.Path(__file__).resolve().parent.parent / "latequestions"
BARRED_WORDS = (
    "type typing typing_extensions enum Enum IntEnum StrEnum Flag IntFlag Generic Protocol ABC ABCMeta namedtuple"
    " NamedTuple TypedDict TYPE_CHECKING abstractmethod"
).split()
BARRED_NAMES = "register mro elements open input law version_info with_traceback add_note format format_map".split()
BUILTINS = (
    "len range enumerate zip min max sum abs sorted reversed int str bool bytes list tuple dict set frozenset"
    " isinstance ord repr any all divmod iter next Exception ValueError TypeError KeyError IndexError LookupError"
    " ZeroDivisionError ArithmeticError OverflowError RuntimeError NotImplementedError AttributeError StopIteration"
    " NotImplemented property classmethod staticmethod super"
).split()
BARRED_STATEMENTS = (
    ast.Global, ast.AsyncFunctionDef, ast.AsyncFor, ast.AsyncWith, ast.Await, ast.Import, ast.Div, ast.MatMult,
)
DOUBLE_UNDERSCORES = (
    "init eq repr str len enter exit call iter lt le gt ge ne and or xor invert neg bool contains getitem setitem ior"
).split()


def trees():
    for path in sorted(PACKAGE.rglob("*.py")):
        yield path, ast.parse(path.read_text())


def nodes(tree, *kinds):
    return [node for node in ast.walk(tree) if isinstance(node, kinds)]


def handed_to_themselves(tree):
    """The lines in which `+=`, `|=`, `extend` or `update` gets the very thing that it changes."""
    lines = []
    for node in nodes(tree, ast.AugAssign):
        if isinstance(node.op, (ast.Add, ast.BitOr)) and ast.unparse(node.target) == ast.unparse(node.value):
            lines.append(node.lineno)
    for node in nodes(tree, ast.Call):
        if isinstance(node.func, ast.Attribute) and node.func.attr in ("extend", "update"):
            given = [ast.unparse(thing) for thing in node.args]
            lines += [node.lineno] if ast.unparse(node.func.value) in given else []
    return lines


CHANGING = "append clear extend insert pop remove reverse setdefault update add discard sort".split()
WALKED_THROUGH = ("enumerate", "zip", "reversed")


def walked(node):
    """The texts of the names, fields and items that a loop over an expression walks, through choices and the like."""
    if isinstance(node, (ast.Name, ast.Attribute, ast.Subscript)):
        return [ast.unparse(node)]
    if isinstance(node, ast.IfExp):
        return walked(node.body) + walked(node.orelse)
    if isinstance(node, ast.BoolOp):
        return [text for part in node.values for text in walked(part)]
    if isinstance(node, ast.Call) and called(node) in WALKED_THROUGH:
        return [text for part in node.args for text in walked(part)]
    if isinstance(node, ast.Call) and getattr(node.func, "attr", "") in ("items", "keys", "values"):
        return walked(node.func.value)
    return []


def other_names(function, texts):
    """These texts and all others that the function makes names of the same things by plain assignments."""
    known = set(texts)
    while True:
        more = set(known)
        for node in nodes(function, ast.Assign):
            for target in node.targets:
                group = {ast.unparse(target), *walked(node.value)}
                if len(group) > 1 and group & more:
                    more |= group
        if more == known:
            return known
        known = more


def changed_texts(node):
    """The texts of what a statement or a call changes by itself: items that are set or deleted, methods that change."""
    targets = []
    if isinstance(node, (ast.Assign, ast.Delete)):
        targets = [target.value for target in node.targets if isinstance(target, ast.Subscript)]
    if isinstance(node, ast.AugAssign):
        targets = [node.target] + ([node.target.value] if isinstance(node.target, ast.Subscript) else [])
    if isinstance(node, ast.Call) and isinstance(node.func, ast.Attribute) and node.func.attr in CHANGING:
        targets = [node.func.value]
    return [ast.unparse(target) for target in targets]


def changed_while_walked(tree):
    """The lines in which a loop or a comprehension changes what it walks, by this or another name of it."""
    lines = []
    for function in nodes(tree, ast.FunctionDef):
        for loop in nodes(function, ast.For, ast.ListComp, ast.DictComp, ast.SetComp):
            heads = [loop.iter] if isinstance(loop, ast.For) else [part.iter for part in loop.generators]
            texts = other_names(function, [text for head in heads for text in walked(head)])
            rows = loop.body if isinstance(loop, ast.For) else [loop]
            for node in [node for row in rows for node in ast.walk(row)]:
                lines += [node.lineno for text in changed_texts(node) if text in texts]
    return sorted(set(lines))


VALUE_METHODS = (
    "append clear copy count endswith extend find get index insert isalnum isalpha isdigit islower isspace isupper"
    " items join keys ljust lower lstrip partition pop remove replace reverse rfind rjust rpartition rsplit rstrip"
    " setdefault split splitlines startswith strip update upper values zfill bit_length removeprefix removesuffix"
).split()
AT_ONCE = "zip enumerate reversed range".split()
TAKES_AT_ONCE = "list tuple dict sorted sum any all enumerate zip reversed len".split()


def parents(tree):
    """A dict from each node to the one that it stands in."""
    return {child: node for node in ast.walk(tree) for child in ast.iter_child_nodes(node)}


def called(node):
    """The name of a function that is called by its name."""
    return node.func.id if isinstance(node, ast.Call) and isinstance(node.func, ast.Name) else ""


def takes(function, call, first):
    """Whether a call without stars passes what a function takes, from its parameter of this number on."""
    if [arg for arg in call.args if isinstance(arg, ast.Starred)] or [one for one in call.keywords if one.arg is None]:
        return True
    plain = [arg.arg for arg in function.args.args][first:]
    behind = [arg.arg for arg in function.args.kwonlyargs]
    given = plain[:len(call.args)] + [one.arg for one in call.keywords]
    needed = plain[:len(plain) - len(function.args.defaults)]
    needed += [name for name, value in zip(behind, function.args.kw_defaults) if value is None]
    if len(call.args) > len(plain) and not function.args.vararg or len(given) != len(set(given)):
        return False
    known = not [name for name in given if name not in plain + behind] or function.args.kwarg is not None
    return known and not [name for name in needed if name not in given]


def defined():
    """Dicts from the names of functions to functions, of classes to their `__init__` or None, of methods to methods."""
    functions, classes, methods, bases = {}, {}, {}, {}
    for path, tree in trees():
        functions |= {node.name: node for node in tree.body if isinstance(node, ast.FunctionDef)}
        for kind in nodes(tree, ast.ClassDef):
            own = [node for node in kind.body if isinstance(node, ast.FunctionDef)]
            bases[kind.name] = [base.id for base in kind.bases]
            classes[kind.name] = ([node for node in own if node.name == "__init__"] + [None])[0]
            for node in own:
                methods.setdefault(node.name, []).append(node)
    for name in classes:
        for base in bases[name]:
            classes[name] = classes[name] or classes.get(base)
    return functions, classes, methods


class FilesTest(unittest.TestCase):

    def test_the_folder_holds_plain_files_only(self):
        paths = [path for path in PACKAGE.rglob("*") if "__pycache__" not in path.parts]
        self.assertIn(PACKAGE / "__init__.py", paths)
        for path in paths:
            self.assertTrue(re.fullmatch(r"__init__\.py|[a-z][a-z0-9_]*\.py", path.name), path)

    def test_characters_and_sizes(self):
        for path, tree in trees():
            text = path.read_text()
            self.assertFalse(re.search(r"[^ -~\n]", text), path)
            self.assertTrue(len(text.splitlines()) <= 399, path)
            self.assertTrue(max(len(line) for line in text.splitlines()) <= 120, path)
            for node in nodes(tree, ast.FunctionDef):
                self.assertTrue(node.end_lineno - node.lineno < 40, (path, node.name))

    def test_barred_words(self):
        for path, tree in trees():
            words = re.findall(r"\w+", path.read_text())
            self.assertEqual([word for word in words if word in BARRED_WORDS], [], path)
            self.assertFalse(re.search("dataclass|overload|contextmanager", path.read_text()), path)


class StatementsTest(unittest.TestCase):

    def test_imports(self):
        edges = {}
        for path, tree in trees():
            first = [node for node in tree.body if not isinstance(node, ast.Expr)]
            imports = nodes(tree, ast.ImportFrom)
            self.assertEqual(first[:len(imports)], imports, path)
            edges[path.stem] = [node.module.split(".")[1] for node in imports]
            for node in imports:
                self.assertTrue(node.module.startswith("latequestions.") and node.level == 0, path)
                defined = ast.parse((PACKAGE / (node.module.split(".")[1] + ".py")).read_text()).body
                names = [getattr(thing, "name", None) for thing in defined]
                names += [target.id for thing in defined for target in getattr(thing, "targets", [])]
                for alias in node.names:
                    self.assertIn(alias.name, names, path)
        while edges:
            free = [stem for stem in edges if not [other for other in edges[stem] if other in edges]]
            self.assertTrue(free, "files import from each other")
            for stem in free:
                edges.pop(stem)

    def test_barred_statements(self):
        for path, tree in trees():
            self.assertEqual(nodes(tree, *BARRED_STATEMENTS), [], path)
            for node in nodes(tree, ast.Constant):
                self.assertNotIsInstance(node.value, float)
                self.assertNotIn("%", node.value if isinstance(node.value, str) else "", path)
            for node in nodes(tree, ast.Compare):
                for sign, right in zip(node.ops, node.comparators):
                    if isinstance(sign, (ast.Is, ast.IsNot)):
                        self.assertIn(getattr(right, "value", 0), (None, True, False), (path, node.lineno))

    def test_module_level(self):
        for path, tree in trees():
            for node in tree.body[1:]:
                self.assertIsInstance(node, (ast.ImportFrom, ast.FunctionDef, ast.ClassDef, ast.Assign), path)

    def test_raise_makes_its_error_on_the_spot(self):
        for path, tree in trees():
            for node in nodes(tree, ast.Raise):
                self.assertTrue(isinstance(node.exc, ast.Call) and isinstance(node.exc.func, ast.Name), path)

    def test_nothing_is_handed_to_what_changes_it(self):
        samples = ("n += n", "box.n |= box.n", "xs[0] += xs[0]", "xs.extend(xs)", "d.of.update(d.of)")
        for text in samples:
            self.assertEqual(len(handed_to_themselves(ast.parse(text))), 1, text)
        for text in ("n += m", "n += box.n", "n *= n", "xs.extend(list(xs))", "d.update(e)", "xs.append(xs)"):
            self.assertEqual(handed_to_themselves(ast.parse(text)), [], text)
        for path, tree in trees():
            self.assertEqual(handed_to_themselves(tree), [], path)

    def test_what_a_loop_walks_is_not_changed_in_it(self):
        wrong = (
            "for x in xs:\n  xs.append(x)", "for k in d:\n  d[k] = 1", "for k, v in d.items():\n  del d[k]",
            "for x in self.xs:\n  if x:\n    self.xs.pop()", "for at, x in enumerate(xs):\n  xs[at] += 1",
            "for x in xs if c else ys:\n  ys.append(x)", "for x in xs or ys:\n  xs.append(x)",
            "ys = xs\nfor x in xs:\n  ys.append(x)", "ys = self.xs\nfor x in self.xs:\n  ys[0] = x",
            "ys = xs if c else zs\nfor x in zs:\n  ys.append(x)", "for x in xs:\n  xs += [x]",
            "ys = [xs.pop() for x in xs]", "for x, y in zip(xs, ys):\n  ys.append(x)",
            "while layer:\n  ahead = {}\n  for x in layer:\n    ahead[x] = 1\n  layer = ahead",
            "for x in d[0]:\n  d[0].append(x)",
        )
        for text in wrong:
            rows = "".join([f"  {row}\n" for row in text.split("\n")])
            self.assertEqual(len(changed_while_walked(ast.parse(f"def f():\n{rows}"))), 1, text)
        right = (
            "for x in list(xs):\n  xs.append(x)", "for x in xs:\n  ys.append(x)", "for x in xs:\n  x.append(1)",
            "ys = list(xs)\nfor x in xs:\n  ys.append(x)", "for x in xs:\n  pass\nxs.append(1)",
            "while layer:\n  ahead = {}\n  for x in list(layer):\n    ahead[x] = 1\n  layer = ahead",
            "for x in self.xs:\n  self.ys[x] = 1", "xs = [x for x in xs]", "for x in f(xs):\n  xs[0] = x",
        )
        for text in right:
            rows = "".join([f"  {row}\n" for row in text.split("\n")])
            self.assertEqual(changed_while_walked(ast.parse(f"def f():\n{rows}")), [], text)
        for path, tree in trees():
            self.assertEqual(changed_while_walked(tree), [], path)

    def test_calls_pass_what_is_taken(self):
        function = ast.parse("def f(a, b=1, *, c, d=2): pass").body[0]
        for text, told in (("f(1, c=2)", True), ("f(1, 2, c=3, d=4)", True), ("f(a=1, c=2)", True), ("f(c=1)", False),
                           ("f(1)", False), ("f(1, 2, 3, c=4)", False), ("f(1, c=2, e=3)", False), ("f(*x)", True),
                           ("f(1, a=1, c=2)", False)):
            self.assertEqual(takes(function, ast.parse(text).body[0].value, 0), told, text)
        functions, classes, methods = defined()
        for path, tree in trees():
            for node in nodes(tree, ast.Call):
                name = called(node)
                if name in functions:
                    self.assertTrue(takes(functions[name], node, 0), (path, node.lineno))
                elif name in classes and classes[name] is None:
                    self.assertEqual(node.args + node.keywords, [], (path, node.lineno))
                elif name in classes:
                    self.assertTrue(takes(classes[name], node, 1), (path, node.lineno))
                elif isinstance(node.func, ast.Attribute) and node.func.attr not in VALUE_METHODS + ["__init__"]:
                    fitting = [method for method in methods.get(node.func.attr, []) if takes(method, node, 1)]
                    self.assertTrue(fitting, (path, node.lineno))

    def test_no_import_is_left_over(self):
        for path, tree in trees():
            used = [node.id for node in nodes(tree, ast.Name)]
            taken = [alias.name for node in nodes(tree, ast.ImportFrom) for alias in node.names]
            self.assertEqual([name for name in taken if name not in used], [], path)

    def test_methods_that_are_called(self):
        own = [node.name for path, tree in trees() for kind in nodes(tree, ast.ClassDef) for node in kind.body
               if isinstance(node, ast.FunctionDef)]
        for path, tree in trees():
            for node in nodes(tree, ast.Call):
                if isinstance(node.func, ast.Attribute):
                    self.assertTrue(node.func.attr in own + VALUE_METHODS, (path, node.lineno, node.func.attr))

    def test_ranges_and_the_like_are_iterated_at_once(self):
        for path, tree in trees():
            above = parents(tree)
            for node in nodes(tree, ast.Call):
                if called(node) in AT_ONCE:
                    place = above[node]
                    is_loop = isinstance(place, (ast.For, ast.comprehension)) and place.iter == node
                    self.assertTrue(is_loop or called(place) in TAKES_AT_ONCE, (path, node.lineno))

    def test_sets_stand_where_they_may(self):
        for path, tree in trees():
            above = parents(tree)
            self.assertEqual(nodes(tree, ast.Set, ast.SetComp), [], path)
            for node in nodes(tree, ast.Call):
                if called(node) == "set":
                    self.assertIn(called(above[node]), ("sorted", "len"), (path, node.lineno))

    def test_generators_are_iterated_at_once(self):
        names = [node.name for path, tree in trees() for node in nodes(tree, ast.FunctionDef)
                 if nodes(node, ast.Yield, ast.YieldFrom)]
        self.assertEqual(sorted(names), ["all_looks", "firsts", "ways"])
        for path, tree in trees():
            used = [node.id for node in nodes(tree, ast.Name)] + [node.attr for node in nodes(tree, ast.Attribute)]
            # The package itself calls none of them; `ways` is a name of values in books.py, where it is not called.
            self.assertEqual([name for name in used if name in names and path.stem != "books"], [], path)

    def test_attributes_that_are_read_are_assigned(self):
        known = VALUE_METHODS + ["setter"]
        known += [node.name for path, tree in trees() for node in nodes(tree, ast.FunctionDef)]
        known += [node.attr for path, tree in trees() for node in nodes(tree, ast.Attribute)
                  if isinstance(node.ctx, ast.Store)]
        known += [target.id for path, tree in trees() for kind in nodes(tree, ast.ClassDef) for node in kind.body
                  if isinstance(node, ast.Assign) for target in node.targets]
        for path, tree in trees():
            for node in nodes(tree, ast.Attribute):
                self.assertTrue(node.attr in known, (path, node.lineno, node.attr))

    def test_sums_over_lists_instead_of_generators(self):
        for path, tree in trees():
            self.assertEqual(nodes(tree, ast.GeneratorExp), [], path)


class NamesTest(unittest.TestCase):

    def test_builtins(self):
        known = dir(__builtins__) if not isinstance(__builtins__, dict) else list(__builtins__)
        for path, tree in trees():
            used = [node.id for node in nodes(tree, ast.Name)] + [node.arg for node in nodes(tree, ast.arg)]
            self.assertEqual([name for name in used if name in known and name not in BUILTINS], [], path)
            bound = [node.id for node in nodes(tree, ast.Name) if not isinstance(node.ctx, ast.Load)]
            bound += [node.arg for node in nodes(tree, ast.arg)]
            self.assertEqual([name for name in bound if name in known], [], path)

    def test_plain_names(self):
        for path, tree in trees():
            names = [node.id for node in nodes(tree, ast.Name)] + [node.arg for node in nodes(tree, ast.arg)]
            # `Base.__init__(self, ..)` is the one way in which a name with underscores is used.
            names += [node.attr for node in nodes(tree, ast.Attribute) if node.attr != "__init__"]
            names += [node.name for node in nodes(tree, ast.ClassDef)]
            self.assertEqual([name for name in names if name.startswith("_") or name in BARRED_NAMES], [], path)
            for node in nodes(tree, ast.FunctionDef):
                plain = node.name.removeprefix("__").removesuffix("__")
                self.assertTrue(not node.name.startswith("_") or plain in DOUBLE_UNDERSCORES, (path, node.name))

    def test_no_name_is_a_method_here_and_an_attribute_there(self):
        methods, attributes = set(), set()
        for path, tree in trees():
            for kind in nodes(tree, ast.ClassDef):
                methods |= {node.name for node in kind.body if isinstance(node, ast.FunctionDef)
                            and not any(getattr(mark, "id", "setter") in ("property", "setter")
                                        for mark in node.decorator_list)}
            attributes |= {node.attr for node in nodes(tree, ast.Attribute) if isinstance(node.ctx, ast.Store)}
        self.assertEqual(methods & attributes, set())

    def test_no_local_name_is_that_of_a_class_or_an_import(self):
        for path, tree in trees():
            taken = [node.name for node in nodes(tree, ast.ClassDef)]
            taken += [alias.name for node in nodes(tree, ast.ImportFrom) for alias in node.names]
            self.assertEqual(len(taken), len(set(taken)), path)
            bound = [node.id for node in nodes(tree, ast.Name) if not isinstance(node.ctx, ast.Load)]
            bound += [node.arg for node in nodes(tree, ast.arg)]
            self.assertEqual([name for name in bound if name in taken], [], path)
