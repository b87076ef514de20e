"""The language subset of the package, as far as a look at the code can tell."""

import ast
import builtins
import os
import unittest

import listnames

FOLDER = os.path.dirname(listnames.__file__)
LIBRARY = {"heapq", "math", "itertools", "collections"}
BUILTINS = """len range enumerate zip min max sum abs sorted reversed int str bool bytes list tuple dict set frozenset
    isinstance ord repr any all divmod pow getattr hasattr iter next map Exception ValueError TypeError KeyError
    IndexError LookupError ZeroDivisionError ArithmeticError OverflowError RuntimeError NotImplementedError
    AttributeError StopIteration NotImplemented property True False None""".split()
# An interactive Python, and a doctest, add _ to its builtins.
PYTHONS = [word for word in dir(builtins) if word != "_"]
METHODS = """append clear copy count endswith extend find get index insert isalnum isalpha isdigit islower isspace isupper
    items join keys ljust lower lstrip partition pop remove replace reverse rfind rjust rpartition rsplit rstrip
    setdefault split splitlines startswith strip update upper values zfill bit_length add discard""".split()
ATTRIBUTES_BARRED = """items keys values pop update append clear extend insert remove reverse setdefault sort args encode
    decode hex fromhex format format_map mro""".split()
WORDS_BARRED = """type typing enum Enum Flag Generic Protocol ABC namedtuple register mro elements open input law exec eval
    compile globals locals vars dir exit help id sys os super""".split()
DOUBLE = """__init__ __eq__ __repr__ __str__ __len__ __call__ __iter__ __contains__ __getitem__ __setitem__ __bool__
    __and__ __or__ __sub__ __xor__ __add__ __floordiv__ __invert__ __ior__""".split()
STATEMENTS = (ast.Assign, ast.AugAssign, ast.If, ast.While, ast.For, ast.Return, ast.Break, ast.Continue, ast.Pass,
              ast.Raise, ast.Assert, ast.Delete, ast.Expr, ast.Try, ast.FunctionDef, ast.ClassDef, ast.ImportFrom)
BARRED = (ast.GeneratorExp, ast.Div, ast.Await, ast.Starred, ast.MatMult, ast.Lambda, ast.JoinedStr, ast.NamedExpr)


def files():
    return sorted(name for name in os.listdir(FOLDER) if name != "__pycache__")


def text_of(name):
    with open(os.path.join(FOLDER, name), encoding="utf-8", newline="") as file:
        return file.read()


def trees():
    return {name[:-3]: ast.parse(text_of(name)) for name in files()}


def imports_of(tree):
    return [node for node in tree.body if isinstance(node, ast.ImportFrom)]


def defined_in(tree):
    found = [node.name for node in tree.body if isinstance(node, (ast.FunctionDef, ast.ClassDef))]
    return found + [node.targets[0].id for node in tree.body if isinstance(node, ast.Assign)]


def bound_in(function):
    found = [arg.arg for arg in function.args.args + function.args.kwonlyargs]
    return found + [node.id for node in ast.walk(function)
                    if isinstance(node, ast.Name) and isinstance(node.ctx, ast.Store)]


class TestRules(unittest.TestCase):

    def each(self, kind):
        for name, tree in trees().items():
            for node in ast.walk(tree):
                if isinstance(node, kind):
                    yield name, node

    def test_files(self):
        for name in files():
            self.assertRegex(name, r"^(__init__|[a-z][a-z0-9_]*)\.py$")
            text = text_of(name)
            self.assertLessEqual(len(text.splitlines()), 399, name)
            self.assertTrue(all(sign == "\n" or " " <= sign <= "~" for sign in text), name)
            self.assertTrue(all(len(line) <= 120 for line in text.splitlines()), name)
            self.assertFalse([word for word in ("dataclass", "overload", "_wall", "metaclass=") if word in text], name)

    def test_imports(self):
        found = trees()
        for name, tree in found.items():
            for node in ast.walk(tree):
                self.assertNotIsInstance(node, ast.Import)
            for node in imports_of(tree):
                self.assertEqual(node.level, 0)
                if node.module in LIBRARY:
                    continue
                package, _, module = node.module.partition(".")
                self.assertEqual(package, "listnames")
                for alias in node.names:
                    self.assertIn(alias.name, defined_in(found[module]), name)

    def test_no_circles(self):
        further = {name: {node.module.partition(".")[2] for node in imports_of(tree)} for name, tree in trees().items()}
        while further:
            free = [name for name, others in further.items() if not others & set(further)]
            self.assertTrue(free, further)
            further = {name: others for name, others in further.items() if name not in free}

    def test_module_level(self):
        for name, tree in trees().items():
            for node in tree.body:
                self.assertIsInstance(node, (ast.Expr, ast.ImportFrom, ast.FunctionDef, ast.ClassDef, ast.Assign), name)
                if isinstance(node, ast.Expr):
                    self.assertIsInstance(node.value.value, str)
            names = defined_in(tree) + [alias.asname or alias.name for node in imports_of(tree) for alias in node.names]
            self.assertEqual(len(names), len(set(names)), name)

    def test_statements(self):
        for name, node in self.each(ast.stmt):
            self.assertIsInstance(node, STATEMENTS, (name, node.lineno))
        for name, node in self.each(BARRED):
            self.assertTrue(isinstance(node, ast.Starred) and isinstance(node.value, (ast.Name, ast.Subscript,
                            ast.Attribute, ast.Call, ast.ListComp)), (name, node.lineno))
        for name, node in self.each(ast.Call):
            for given in node.args:
                if isinstance(given, ast.Starred):
                    self.assertIsInstance(given.value, (ast.Name, ast.Attribute), (name, node.lineno))
        for name, node in self.each(ast.Constant):
            self.assertNotIsInstance(node.value, float, name)
        for name, node in self.each(ast.Compare):
            for sign, other in zip(node.ops, node.comparators):
                if isinstance(sign, (ast.Is, ast.IsNot)):
                    self.assertIn(getattr(other, "value", 0), (None, True, False), (name, node.lineno))

    def test_functions(self):
        for name, node in self.each(ast.FunctionDef):
            where = (name, node.name)
            self.assertLessEqual(node.end_lineno - node.lineno + 1, 40, where)
            self.assertTrue(all(getattr(one, "id", "") == "property" for one in node.decorator_list), where)
            if node.name.startswith("__"):
                self.assertIn(node.name, DOUBLE, where)
            elif not node.name.startswith("_"):
                self.assertTrue(ast.get_docstring(node), where)

    def test_names(self):
        for name, tree in trees().items():
            imported = [alias.name for node in imports_of(tree) for alias in node.names]
            classes = [node.name for node in tree.body if isinstance(node, ast.ClassDef)]
            for node in ast.walk(tree):
                if isinstance(node, ast.FunctionDef):
                    for word in bound_in(node):
                        self.assertFalse(word in imported + classes + WORDS_BARRED, (name, node.name, word))
                        self.assertNotIn(word, PYTHONS, (name, node.name))
                if isinstance(node, ast.Name) and node.id in PYTHONS:
                    self.assertIn(node.id, BUILTINS, (name, node.lineno))

    def test_attributes(self):
        methods = {node.name for _, node in self.each(ast.FunctionDef)}
        assigned = set()
        for name, node in self.each(ast.Attribute):
            if isinstance(node.ctx, ast.Store):
                assigned.add(node.attr)
                self.assertNotIn(node.attr, ATTRIBUTES_BARRED, name)
        for name, node in self.each(ast.Attribute):
            self.assertIn(node.attr, methods | assigned | set(METHODS), (name, node.lineno))
            self.assertNotIn(node.attr, WORDS_BARRED, (name, node.lineno))

    def test_sets(self):
        for name, tree in trees().items():
            inside = [id(node.args[0]) for node in ast.walk(tree) if isinstance(node, ast.Call)
                      and getattr(node.func, "id", "") in ("sorted", "len") and node.args and not node.keywords]
            for node in ast.walk(tree):
                made = isinstance(node, ast.Call) and getattr(node.func, "id", "") == "set"
                if made or isinstance(node, (ast.SetComp, ast.Set)):
                    self.assertIn(id(node), inside, (name, node.lineno))

    def test_classes_with_items_say_how_they_are_iterated(self):
        for name, node in self.each(ast.ClassDef):
            words = [item.name for item in node.body if isinstance(item, ast.FunctionDef)]
            self.assertEqual("__getitem__" in words, "__iter__" in words, name)
            self.assertNotIn("keys", words)


if __name__ == "__main__":
    unittest.main()
