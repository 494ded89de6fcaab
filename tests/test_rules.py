"""The rules that each file of the package keeps, as far as its syntax tells them."""

import ast
import builtins
import pathlib
import re
import unittest

FOLDER = pathlib.Path(__file__).resolve().parent.parent / "runclaims"
BUILTINS = set(
    "len range enumerate zip min max sum abs sorted reversed int str bool list tuple dict set"
    " isinstance ord repr any all divmod type property TypeError ValueError".split()
)
METHODS = set(
    "append clear copy count endswith extend find get index insert isalnum isalpha isdigit"
    " islower isspace isupper items join keys ljust lower lstrip partition pop remove replace"
    " reverse rfind rjust rpartition rsplit rstrip setdefault split splitlines startswith"
    " strip update upper values zfill bit_length add discard".split()
)
BARRED_WORDS = (
    "typing|typing_extensions|enum|Enum|IntEnum|StrEnum|Flag|IntFlag|Generic|Protocol|ABC"
    "|ABCMeta|namedtuple|NamedTuple|TypedDict|TYPE_CHECKING|abstractmethod"
)
BARRED_NAMES = set(
    "register mro elements open input law version_info with_traceback add_note attrgetter"
    " breakpoint builtins compile copyright credits delattr dir eval exec exit gc getattr"
    " globals hasattr help id importlib license locals methodcaller os quit setattr super"
    " vars sys".split()
)
NODES = (
    ast.Module, ast.Expr, ast.Constant, ast.ImportFrom, ast.alias, ast.FunctionDef,
    ast.arguments, ast.arg, ast.ClassDef, ast.Assign, ast.AugAssign, ast.Name, ast.Load,
    ast.Store, ast.Return, ast.If, ast.While, ast.For, ast.Break, ast.Continue, ast.Raise,
    ast.Call, ast.Attribute, ast.Subscript, ast.Slice, ast.Tuple, ast.List, ast.Dict,
    ast.ListComp, ast.DictComp, ast.SetComp, ast.comprehension, ast.BinOp, ast.BoolOp,
    ast.UnaryOp, ast.Compare, ast.IfExp, ast.Starred, ast.JoinedStr, ast.FormattedValue,
    ast.Lambda, ast.keyword, ast.operator, ast.boolop, ast.unaryop, ast.cmpop, ast.Delete, ast.Del,
    ast.Try, ast.ExceptHandler,
)
FILES = sorted(FOLDER.glob("*.py"))


def parsed(path):
    return ast.parse(path.read_text())


def functions_in(tree):
    return [node for node in ast.walk(tree) if isinstance(node, ast.FunctionDef)]


def nested_in(tree):
    """The functions that stand within others."""
    inner = [inner for function in functions_in(tree) for inner in functions_in(function)[1:]]
    return [node for at, node in enumerate(inner) if node not in inner[:at]]


def bound_in(function):
    """The names of parameters, local variables and nested functions of a function."""
    names = []
    for node in ast.walk(function):
        if isinstance(node, ast.Name) and isinstance(node.ctx, ast.Store):
            names.append(node.id)
        if isinstance(node, (ast.FunctionDef, ast.Lambda)):
            arguments = node.args
            rows = arguments.args + arguments.kwonlyargs + arguments.posonlyargs
            names.extend([row.arg for row in rows])
        if isinstance(node, ast.FunctionDef) and node is not function:
            names.append(node.name)
    return set(names)


def bound_by(tree):
    """The names bound at module level: imports, functions and classes, values."""
    imports, made, values = [], [], []
    for node in tree.body:
        if isinstance(node, ast.ImportFrom):
            imports.extend([alias.name for alias in node.names])
        elif isinstance(node, (ast.FunctionDef, ast.ClassDef)):
            made.append(node.name)
        elif isinstance(node, ast.Assign):
            values.extend([target.id for target in node.targets])
    return imports, made, values


class Rules(unittest.TestCase):
    def each(self):
        return [(path, parsed(path)) for path in FILES]

    def test_the_folder_holds_python_files_alone(self):
        for path in FOLDER.iterdir():
            if path.name != "__pycache__":
                self.assertRegex(path.name, r"^[a-z_][a-z0-9_]*\.py$")

    def test_sizes_and_signs(self):
        for path, tree in self.each():
            text = path.read_text()
            self.assertRegex(text, r"\A[ -~\n]*\Z")
            self.assertLessEqual(len(text.splitlines()), 399)
            for line in text.splitlines():
                self.assertLessEqual(len(line), 120)
            for function in functions_in(tree):
                self.assertLessEqual(function.end_lineno - function.lineno + 1, 40)

    def test_nodes(self):
        for path, tree in self.each():
            for node in ast.walk(tree):
                self.assertIsInstance(node, NODES, ast.dump(node))
                if isinstance(node, ast.FunctionDef):
                    self.assertIn([row.id for row in node.decorator_list], ([], ["property"]))
                    self.assertIsNone(node.returns)
                if isinstance(node, ast.arg):
                    self.assertIsNone(node.annotation)
                if isinstance(node, ast.Constant):
                    self.assertIn(type(node.value), (int, str, bool, type(None)))

    def test_module_level(self):
        plain = (ast.Constant, ast.Tuple, ast.List, ast.Dict, ast.Name, ast.Load)
        for path, tree in self.each():
            self.assertIsInstance(tree.body[0], ast.Expr)
            imports, made, values = bound_by(tree)
            names = imports + made + values
            self.assertEqual(len(names), len(set(names)))
            for node in tree.body[1:]:
                self.assertIsInstance(
                    node, (ast.ImportFrom, ast.FunctionDef, ast.ClassDef, ast.Assign)
                )
                if isinstance(node, ast.Assign):
                    self.assertEqual(len(node.targets), 1)
                    for inner in ast.walk(node.value):
                        self.assertIsInstance(inner, plain)

    def test_imports(self):
        needs = {}
        for path, tree in self.each():
            needs[path.stem] = []
            for node in ast.walk(tree):
                if isinstance(node, ast.ImportFrom):
                    self.assertIn(node, tree.body)
                    self.assertEqual(node.level, 0)
                    self.assertTrue(node.module.startswith("runclaims."))
                    home = node.module.split(".")[1]
                    needs[path.stem].append(home)
                    _, made, values = bound_by(parsed(FOLDER / f"{home}.py"))
                    for alias in node.names:
                        self.assertIsNone(alias.asname)
                        self.assertIn(alias.name, made + values)
        done = set()
        while len(done) < len(needs):
            free = [name for name in needs if name not in done and set(needs[name]) <= done]
            self.assertNotEqual(free, [], "imports go round")
            done.update(free)

    def test_names(self):
        for path, tree in self.each():
            imports, made, values = bound_by(tree)
            classes = [node.name for node in tree.body if isinstance(node, ast.ClassDef)]
            for name in made + values:
                self.assertFalse(hasattr(builtins, name), name)
                self.assertNotIn(name, BARRED_NAMES)
            nested = nested_in(tree)
            for function in [node for node in functions_in(tree) if node not in nested]:
                bound = bound_in(function)
                for name in bound:
                    self.assertFalse(hasattr(builtins, name), name)
                    self.assertNotIn(name, BARRED_NAMES)
                    self.assertNotIn(name, imports + classes)
                for node in ast.walk(function):
                    if isinstance(node, ast.Name) and isinstance(node.ctx, ast.Load):
                        known = bound | set(imports + made + values) | BUILTINS
                        self.assertIn(node.id, known)
            for name in imports:
                uses = [n for n in ast.walk(tree) if isinstance(n, ast.Name) and n.id == name]
                bases = [n for n in ast.walk(tree) if isinstance(n, ast.ClassDef)]
                self.assertTrue(uses or bases, f"{name} is imported and not used")

    def test_words(self):
        for path, tree in self.each():
            for node in ast.walk(tree):
                for field in ("id", "attr", "name", "arg"):
                    word = getattr(node, field, None)
                    if isinstance(word, str):
                        self.assertNotRegex(word, rf"^({BARRED_WORDS})$")
                        self.assertNotRegex(word, r"^(_wall|_pe_|_dcw_|_enum_|_cm_|_sre)")
                if isinstance(node, ast.Constant) and isinstance(node.value, str):
                    self.assertNotIn("%", node.value)

    def test_methods_and_attributes(self):
        own = set()
        for path in FILES:
            for node in ast.walk(parsed(path)):
                if isinstance(node, ast.ClassDef):
                    own.update([function.name for function in functions_in(node)])
                if isinstance(node, ast.Attribute) and isinstance(node.ctx, ast.Store):
                    own.add(node.attr)
        for path, tree in self.each():
            for node in ast.walk(tree):
                if isinstance(node, ast.Attribute):
                    self.assertIn(node.attr, own | METHODS)

    def test_is_and_sets_and_stars(self):
        for path, tree in self.each():
            inside = []
            for node in ast.walk(tree):
                if isinstance(node, ast.Call):
                    name = getattr(node.func, "id", "")
                    if name in ("sorted", "len"):
                        inside.extend(node.args)
                    for argument in node.args:
                        if isinstance(argument, ast.Starred):
                            self.assertIsInstance(argument.value, ast.Name)
                if isinstance(node, ast.Compare):
                    for sign, other in zip(node.ops, node.comparators):
                        if isinstance(sign, (ast.Is, ast.IsNot)):
                            self.assert_plain_is(node.left, other)
            for node in ast.walk(tree):
                is_set = isinstance(node, ast.Call) and getattr(node.func, "id", "") == "set"
                if is_set or isinstance(node, ast.SetComp):
                    self.assertIn(node, inside)

    def assert_plain_is(self, left, other):
        if isinstance(other, ast.Constant):
            self.assertIn(other.value, (None, True, False))
        else:
            self.assertEqual(left.func.id, "type")
            self.assertIn(other.id, ("int", "str", "bool", "list", "tuple", "dict"))

    def test_starts_with_dunder_init_return_nothing(self):
        for _, tree in self.each():
            for function in functions_in(tree):
                if function.name == "__init__":
                    self.assertEqual(functions_in(function), [function])
                    self.assertFalse([n for n in ast.walk(function) if isinstance(n, ast.Return)])

    def test_no_name_is_a_method_and_an_attribute(self):
        methods, attributes = set(), set()
        for _, tree in self.each():
            for node in ast.walk(tree):
                if isinstance(node, ast.ClassDef):
                    methods.update([function.name for function in functions_in(node)])
                if isinstance(node, ast.Attribute) and isinstance(node.ctx, ast.Store):
                    attributes.add(node.attr)
        self.assertEqual(methods & attributes, set())
        self.assertEqual(attributes & set(dir(list) + dir(dict) + dir(str) + dir(set) + dir(int)), set())
        doubled = {"__init__", "__len__", "__eq__", "__contains__", "__getitem__", "__iter__"}
        self.assertEqual(methods & set(dir(list) + dir(dict) + dir(str) + dir(set) + dir(int)), doubled)

    def test_properties_and_methods_of_operators_change_nothing(self):
        plain = ("isinstance", "len", "tuple", "sorted", "list", "NoSystem", "TypeError")
        names = set()
        for path, tree in self.each():
            for node in [one for one in ast.walk(tree) if isinstance(one, ast.ClassDef)]:
                for function in functions_in(node):
                    decorated = [row.id for row in function.decorator_list] == ["property"]
                    if decorated or function.name.startswith("__") and function.name != "__init__":
                        calls = [call.func for call in ast.walk(function) if isinstance(call, ast.Call)]
                        for call in calls:
                            self.assertIn(getattr(call, "id", None), plain, f"{path.name}:{function.name}")
                        stores = [one for one in ast.walk(function) if isinstance(getattr(one, "ctx", None), ast.Store)]
                        self.assertEqual(stores, [])
                    if decorated:
                        names.add(function.name)
        methods = {
            function.name for _, tree in self.each() for node in ast.walk(tree) if isinstance(node, ast.ClassDef)
            for function in functions_in(node) if not function.decorator_list
        }
        self.assertEqual(names, {"system", "taken", "here", "ahead", "names", "deeds"})
        self.assertEqual(names & methods, set())

    def test_tries_catch_own_errors_alone(self):
        own = {node.name for node in parsed(FOLDER / "errors.py").body if isinstance(node, ast.ClassDef)}
        for path, tree in self.each():
            for node in ast.walk(tree):
                if isinstance(node, ast.ExceptHandler):
                    self.assertIn(node.type.id, own, path.name)
                    self.assertIsNone(node.name)
                if isinstance(node, ast.Try):
                    self.assertEqual((node.finalbody, node.orelse), ([], []))

    def test_nothing_that_a_loop_goes_over_is_modified_in_it(self):
        changing = ("append", "extend", "insert", "pop", "remove", "clear", "update", "setdefault", "reverse")
        for path, tree in self.each():
            for loop in [node for node in ast.walk(tree) if isinstance(node, ast.For)]:
                over = {node.id for node in ast.walk(loop.iter) if isinstance(node, ast.Name)}
                for node in [inner for row in loop.body for inner in ast.walk(row)]:
                    if isinstance(node, ast.Call) and isinstance(node.func, ast.Attribute):
                        if node.func.attr in changing and isinstance(node.func.value, ast.Name):
                            self.assertNotIn(node.func.value.id, over, f"{path.name}:{node.lineno}")
                    if isinstance(node, ast.Subscript) and not isinstance(node.ctx, ast.Load):
                        if isinstance(node.value, ast.Name):
                            self.assertNotIn(node.value.id, over, f"{path.name}:{node.lineno}")

    def test_lines_end_well(self):
        for path in FILES:
            for line in path.read_text().splitlines():
                self.assertIsNone(re.search(r"\s$", line), f"{path.name}: {line}")


if __name__ == "__main__":
    unittest.main()
