"""The form of the code: what can be seen of the rules for the language by reading the files of the package."""

import ast
import builtins
import pathlib
import re
import unittest

PACKAGE = pathlib.Path(__file__).resolve().parent.parent / "neverunsaid"
FILES = {path.stem: path.read_text(encoding="utf-8") for path in sorted(PACKAGE.glob("*.py"))}
TREES = {name: ast.parse(text) for name, text in FILES.items()}
NODES = [(name, node) for name, tree in TREES.items() for node in ast.walk(tree)]
FUNCTIONS = [(name, node) for name, node in NODES if isinstance(node, ast.FunctionDef)]
CLASSES = [(name, node) for name, node in NODES if isinstance(node, ast.ClassDef)]

BUILTINS = set("""len range enumerate zip min max sum abs sorted reversed int str bool list tuple dict set isinstance ord
    repr any all divmod ValueError""".split())
METHODS = set("""append clear copy count endswith extend find get index insert isalnum isalpha isdigit islower isspace isupper
    items join keys ljust lower lstrip partition pop remove replace reverse rfind rjust rpartition rsplit rstrip setdefault
    split splitlines startswith strip update upper values zfill bit_length isascii isprintable removeprefix""".split())
DOUBLE = ["__init__", "__eq__", "__len__", "__contains__"]
BARRED = set("""register mro elements open input law version_info with_traceback add_note attrgetter breakpoint builtins compile
    copyright credits delattr dir eval exec exit gc getattr globals hasattr help id importlib license locals methodcaller os quit
    setattr super type vars sys typing enum Enum dataclass overload contextmanager namedtuple""".split())
STATEMENTS = (ast.Assign, ast.AugAssign, ast.If, ast.While, ast.For, ast.Return, ast.Break, ast.Continue, ast.Pass, ast.Raise,
              ast.Expr, ast.Try, ast.FunctionDef, ast.ClassDef, ast.ImportFrom)


def attributes_of_own():
    """The names of methods, and of attributes that methods assign, of all classes of the package."""
    methods = {method for _, owner in CLASSES for method in names_of(owner)[0]}
    assigned = {word for _, owner in CLASSES for word in names_of(owner)[1]}
    return methods, assigned


def names_of(owner):
    """The names of the methods of a class, and of the attributes that they assign."""
    methods = {node.name for node in owner.body if isinstance(node, ast.FunctionDef)}
    assigned = {node.attr for node in ast.walk(owner) if isinstance(node, ast.Attribute) and isinstance(node.ctx, ast.Store)}
    return methods, assigned


def properties_of_own():
    """The names of all properties of the package."""
    return {node.name for _, node in FUNCTIONS if [decorator.id for decorator in node.decorator_list] == ["property"]}


def wrong_in_plain(value, within=False):
    """What is not plain in a value that stands at module level: a list, dict or tuple there has no list or dict within."""
    if isinstance(value, (list, dict, tuple)):
        items = list(value.items()) if isinstance(value, dict) else value
        wrong = [value] if within and not isinstance(value, tuple) else []
        return wrong + [found for item in items for found in wrong_in_plain(item, True)]
    return [] if value is None or isinstance(value, (int, str)) else [value]


def local_names(function):
    """The parameters of a function and all names that it assigns."""
    names = [parameter.arg for parameter in function.args.args]
    return names + [node.id for node in ast.walk(function) if isinstance(node, ast.Name) and isinstance(node.ctx, ast.Store)]


class Form(unittest.TestCase):
    def test_files(self):
        found = [path.name for path in PACKAGE.iterdir() if path.name != "__pycache__"]
        self.assertEqual(sorted(found), [name + ".py" for name in sorted(FILES)])
        for name, text in FILES.items():
            self.assertRegex(name, r"\A(__init__|[a-z][a-z0-9_]*)\Z")
            self.assertRegex(text, r"\A[\n -~]*\n\Z")
            self.assertLess(len(text.split("\n")), 400)
            self.assertLessEqual(max(len(line) for line in text.split("\n")), 120)

    def test_functions_are_small_and_plain(self):
        for name, node in FUNCTIONS:
            self.assertLessEqual(node.end_lineno - node.lineno + 1, 40, node.name)
            self.assertLessEqual({decorator.id for decorator in node.decorator_list}, {"property"})
            given = node.args
            self.assertEqual([given.vararg, given.kwarg, given.kwonlyargs, given.posonlyargs, given.defaults], [None, None, [], [], []])
            self.assertIsNone(node.returns)
            self.assertEqual([parameter.annotation for parameter in given.args], [None] * len(given.args))
            self.assertIsNotNone(ast.get_docstring(node) or node.name.startswith("__") or None, (name, node.name))
            self.assertTrue(not node.name.startswith("__") or node.name in DOUBLE)

    def test_imports_name_the_files_that_define(self):
        needs = {}
        for name, tree in TREES.items():
            needs[name] = []
            for node in tree.body:
                if not isinstance(node, ast.ImportFrom):
                    continue
                place, word = node.module.split(".")
                self.assertEqual((place, node.level), ("neverunsaid", 0))
                defined = {found.name for found in TREES[word].body if isinstance(found, (ast.FunctionDef, ast.ClassDef))}
                for told in node.names:
                    self.assertIsNone(told.asname)
                    self.assertIn(told.name, defined)
                    used = [found for found in ast.walk(tree) if isinstance(found, ast.Name) and found.id == told.name]
                    self.assertTrue(used, (name, told.name))
                needs[name].append(word)
        while needs:
            free = [name for name in needs if not set(needs[name]) & set(needs)]
            self.assertTrue(free, "files import from each other")
            needs = {name: needs[name] for name in needs if name not in free}

    def test_module_level_holds_plain_values_alone_and_binds_each_name_once(self):
        for name, tree in TREES.items():
            bound = []
            for node in tree.body[1:]:
                self.assertIsInstance(node, (ast.ImportFrom, ast.FunctionDef, ast.ClassDef, ast.Assign))
                if isinstance(node, ast.Assign):
                    self.assertFalse(wrong_in_plain(ast.literal_eval(node.value)), name)
                    bound.append(node.targets[0].id)
                elif isinstance(node, ast.ImportFrom):
                    bound += [told.name for told in node.names]
                else:
                    bound.append(node.name)
            self.assertEqual(len(set(bound)), len(bound), name)
            self.assertFalse(set(bound) & set(dir(builtins)))

    def test_statements_and_values(self):
        barred = (ast.GeneratorExp, ast.Lambda, ast.Set, ast.Div, ast.Yield, ast.YieldFrom, ast.Await, ast.Starred, ast.NamedExpr,
                  ast.AnnAssign, ast.Global, ast.Nonlocal, ast.Delete, ast.With, ast.Match, ast.Assert, ast.AsyncFunctionDef)
        for name, node in NODES:
            if isinstance(node, ast.stmt):
                self.assertIsInstance(node, STATEMENTS, name)
            self.assertNotIsInstance(node, barred, name)
            if isinstance(node, ast.Constant):
                self.assertIn(type(node.value), (int, str, bool, type(None)))
                self.assertNotIn("%", str(node.value))
            if isinstance(node, ast.Compare) and any(isinstance(sign, (ast.Is, ast.IsNot)) for sign in node.ops):
                self.assertIn(node.comparators[0].value, (None, True, False))
            if isinstance(node, ast.ExceptHandler):
                caught = node.type.elts if isinstance(node.type, ast.Tuple) else [node.type]
                self.assertLessEqual({error.id for error in caught}, {owner.name for _, owner in CLASSES})
            if isinstance(node, ast.Raise):
                self.assertIsInstance(node.exc, ast.Call)

    def test_sets_are_only_measured_or_sorted(self):
        for name, node in NODES:
            for child in ast.iter_child_nodes(node):
                if isinstance(child, ast.SetComp):
                    self.assertTrue(isinstance(node, ast.Call) and node.func.id in ("len", "sorted"), name)

    def test_names(self):
        for name, node in NODES:
            words = [node.id] if isinstance(node, ast.Name) else []
            words += [node.name] if isinstance(node, (ast.FunctionDef, ast.ClassDef)) else []
            words += [node.arg] if isinstance(node, (ast.arg, ast.keyword)) else []
            words += [node.attr] if isinstance(node, ast.Attribute) else []
            for word in words:
                self.assertRegex(word, r"\A(_|_?[A-Za-z][A-Za-z0-9_]*|__[a-z]+__)\Z")
                self.assertNotIn(word, BARRED, name)
                self.assertFalse(re.match(r"_(wall|pe_|dcw_|enum_|cm_|twin_re_|lay_|law_|stub_|sre)", word), word)

    def test_builtins_are_the_allowed_ones_and_keep_their_meaning(self):
        for name, tree in TREES.items():
            taken = {told.name for node in tree.body if isinstance(node, ast.ImportFrom) for told in node.names}
            taken |= {owner.name for place, owner in CLASSES if place == name} | set(dir(builtins))
            functions = {node.name for node in tree.body if isinstance(node, ast.FunctionDef)}
            for place, function in FUNCTIONS:
                if place == name:
                    self.assertFalse((taken | functions) & set(local_names(function)), (name, function.name))
            for node in ast.walk(tree):
                if isinstance(node, ast.Name) and node.id in dir(builtins) and node.id != "property":
                    self.assertIn(node.id, BUILTINS, name)

    def test_methods_and_attributes(self):
        methods, assigned = attributes_of_own()
        self.assertFalse(methods & METHODS)
        self.assertLessEqual(assigned & METHODS, {"count", "index", "find", "get", "join", "lower", "upper", "split", "strip", "copy"})
        # A name may be a method of one class and an attribute of another one, but not so a property.
        for name, owner in CLASSES:
            self.assertFalse(names_of(owner)[0] & names_of(owner)[1], owner.name)
        self.assertFalse(properties_of_own() & assigned)
        for name, node in NODES:
            if isinstance(node, ast.Call) and isinstance(node.func, ast.Attribute):
                self.assertIn(node.func.attr, methods | METHODS, name)
            elif isinstance(node, ast.Attribute):
                self.assertIn(node.attr, methods | assigned | METHODS, name)

    def test_error_classes_stand_below_the_base_alone(self):
        for name, owner in CLASSES:
            bases = [base.id for base in owner.bases]
            self.assertIn(bases, ([], ["ValueError"], ["UnsaidError"]))
            self.assertEqual(bool(bases), name == "errors")


if __name__ == "__main__":
    unittest.main()
