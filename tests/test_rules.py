"""What of ../shared/LANGUAGE.md can be seen in the text of the package's files."""

import ast
import builtins
import os
import unittest

PACKAGE = os.path.join(os.path.dirname(os.path.dirname(os.path.abspath(__file__))), "backwalks")
LIBRARY = {
    "math": {"gcd", "lcm", "isqrt", "comb", "perm", "factorial"},
    "itertools": {"product", "combinations", "permutations"},
}
BUILTINS = set("""
    len range enumerate zip min max sum abs sorted reversed int str bool bytes list tuple dict set frozenset isinstance
    ord repr any all divmod iter next map property Exception ValueError TypeError KeyError IndexError LookupError
    ZeroDivisionError ArithmeticError OverflowError RuntimeError NotImplementedError StopIteration NotImplemented
""".split())
METHODS = {"__init__", "__len__", "__enter__", "__exit__", "__bool__"}
NO_NODES = (ast.AsyncFunctionDef, ast.AsyncFor, ast.AsyncWith, ast.Await, ast.Global, ast.Div, ast.MatMult, ast.Import)
NO_WORDS = ["type", "typing", "enum", "Enum", "Flag", "Generic", "Protocol", "ABC", "namedtuple", "dataclass", "mro",
            "elements", "open", "input", "law", "register", "eval", "exec", "vars", "globals", "locals", "super"]


AT_ONCE = {"range", "zip", "enumerate", "reversed", "map", "product", "combinations", "permutations"}
VALUE_METHODS = set("""
    append clear copy count endswith extend find get index insert isalnum isalpha isdigit islower isspace isupper items
    join keys ljust lower lstrip partition pop remove replace reverse rfind rjust rpartition rsplit rstrip setdefault
    split splitlines startswith strip update upper values zfill bit_length
""".split())


def is_call_of(node, names):
    """Whether it is a call of one of these names."""
    return isinstance(node, ast.Call) and isinstance(node.func, ast.Name) and node.func.id in names


def sources():
    """The name, text and tree of each file of the package."""
    found = []
    for name in sorted(os.listdir(PACKAGE)):
        if name != "__pycache__":
            with open(os.path.join(PACKAGE, name), encoding="ascii") as file:
                text = file.read()
            found.append((name, text, ast.parse(text)))
    return found


SOURCES = sources()


def nodes_of(*kinds):
    return [(name, node) for name, _, tree in SOURCES for node in ast.walk(tree) if isinstance(node, kinds)]


def imported(tree):
    return [alias.name for node in tree.body if isinstance(node, ast.ImportFrom) for alias in node.names]


def bound_names(tree):
    """The names of parameters and of local variables, and of what is defined."""
    names = [node.arg for node in ast.walk(tree) if isinstance(node, ast.arg)]
    names += [node.id for node in ast.walk(tree) if isinstance(node, ast.Name) and not isinstance(node.ctx, ast.Load)]
    return names


class RulesTest(unittest.TestCase):

    def test_files(self):
        self.assertIn("__init__.py", [name for name, _, _ in SOURCES])
        for name, text, _ in SOURCES:
            self.assertTrue(name.endswith(".py") and name.islower(), name)
            self.assertTrue(all(sign == "\n" or " " <= sign <= "~" for sign in text), name)

    def test_sizes(self):
        for name, text, _ in SOURCES:
            lines = text.split("\n")
            self.assertLessEqual(len(lines) - 1, 399, name)
            self.assertLessEqual(max(map(len, lines)), 120, name)
        for name, node in nodes_of(ast.FunctionDef):
            self.assertLessEqual(node.end_lineno - node.lineno + 1, 40, (name, node.name))

    def test_imports(self):
        for name, node in nodes_of(ast.ImportFrom):
            self.assertEqual(node.level, 0, name)
            if node.module in LIBRARY:
                self.assertLessEqual({alias.name for alias in node.names}, LIBRARY[node.module], name)
            else:
                self.assertTrue(node.module.startswith("backwalks."), name)
                defined = [tree for file, _, tree in SOURCES if file == node.module.split(".")[1] + ".py"][0]
                self.assertFalse({alias.name for alias in node.names} & set(imported(defined)), name)

    def test_no_circle_of_imports(self):
        leads = {name: [node.module.split(".")[1] + ".py" for node in tree.body
                        if isinstance(node, ast.ImportFrom) and node.module.startswith("backwalks.")]
                 for name, _, tree in SOURCES}
        while leads:
            ended = [name for name in leads if not any(other in leads for other in leads[name])]
            self.assertTrue(ended, leads)
            leads = {name: leads[name] for name in leads if name not in ended}

    def test_module_level(self):
        for name, _, tree in SOURCES:
            for node in tree.body:
                docstring = isinstance(node, ast.Expr) and node is tree.body[0]
                kinds = (ast.ImportFrom, ast.FunctionDef, ast.ClassDef, ast.Assign)
                self.assertTrue(docstring or isinstance(node, kinds), (name, node.lineno))

    def test_each_import_is_used(self):
        for name, _, tree in SOURCES:
            used = {node.id for node in ast.walk(tree) if isinstance(node, ast.Name)}
            self.assertLessEqual(set(imported(tree)), used, name)

    def test_names(self):
        for name, _, tree in SOURCES:
            classes = [node.name for node in tree.body if isinstance(node, ast.ClassDef)]
            self.assertFalse(set(bound_names(tree)) & set(imported(tree) + classes), name)
            functions = [node.name for node in ast.walk(tree) if isinstance(node, (ast.FunctionDef, ast.ClassDef))]
            self.assertFalse(set(bound_names(tree) + functions) & set(dir(builtins)), name)
            self.assertFalse(set(bound_names(tree) + functions) & set(NO_WORDS), name)
            self.assertEqual([each for each in functions if each.startswith("__") and each not in METHODS], [], name)

    def test_builtins(self):
        for name, node in nodes_of(ast.Name):
            if isinstance(node.ctx, ast.Load) and node.id in dir(builtins):
                self.assertIn(node.id, BUILTINS, (name, node.lineno))

    def test_nodes(self):
        self.assertEqual([(name, node.lineno) for name, node in nodes_of(*NO_NODES)], [])
        for name, node in nodes_of(ast.FunctionDef):
            told = [ast.unparse(each) for each in node.decorator_list]
            self.assertIn(told, ([], ["property"]), (name, node.name))
        for name, node in nodes_of(ast.Constant):
            self.assertNotIsInstance(node.value, (float, complex), (name, node.lineno))
        for name, node in nodes_of(ast.Attribute):
            self.assertNotIn(node.attr, NO_WORDS + ["format", "args"], (name, node.lineno))

    def test_called_methods(self):
        own = {node.name for _, node in nodes_of(ast.FunctionDef)}
        for name, node in nodes_of(ast.Call):
            if isinstance(node.func, ast.Attribute):
                self.assertIn(node.func.attr, VALUE_METHODS | own, (name, node.lineno))
            self.assertTrue(isinstance(node.func, (ast.Attribute, ast.Name)), (name, node.lineno))

    def test_iterated_at_once(self):
        # What is kept of these is kept by a plain statement of its own, and by nothing else.
        self.assertEqual([(name, node.lineno) for name, node in nodes_of(ast.GeneratorExp)], [])
        kept = []
        for name, node in nodes_of(ast.Assign):
            if isinstance(node.value, (ast.Tuple, ast.List)):
                kept += [(name, each.lineno) for each in node.value.elts if is_call_of(each, AT_ONCE)]
        for name, node in nodes_of(ast.Return):
            kept += [(name, node.lineno)] if is_call_of(node.value, AT_ONCE) else []
        self.assertEqual(kept, [])

    def test_sets(self):
        for name, _, tree in SOURCES:
            for node in ast.walk(tree):
                for child in ast.iter_child_nodes(node):
                    if is_call_of(child, {"set"}) or isinstance(child, (ast.Set, ast.SetComp)):
                        told = isinstance(node, ast.Compare) or is_call_of(node, {"len", "sorted"})
                        self.assertTrue(told, (name, child.lineno))
        self.assertEqual([name for name, node in nodes_of(ast.Constant)
                          if isinstance(node.value, str) and "%" in node.value], [])

    def test_stars(self):
        # A star stands over a name, an attribute or a literal alone.
        for name, node in nodes_of(ast.Call):
            for each in node.args:
                if isinstance(each, ast.Starred):
                    self.assertIsInstance(each.value, (ast.Name, ast.Attribute, ast.List, ast.Tuple), (name, node.lineno))
            # What is iterated at once is the first argument of what iterates it.
            for each in node.args[1:]:
                self.assertFalse(is_call_of(each, AT_ONCE - {"range"}), (name, node.lineno))

    def test_withs(self):
        for name, node in nodes_of(ast.FunctionDef):
            if node.name == "__exit__":
                self.assertEqual([each.arg for each in node.args.args], ["self", "kind", "value", "trace"], name)
                for each in ast.walk(node):
                    kinds = (ast.Call, ast.BinOp, ast.Subscript, ast.Return, ast.Raise, ast.For, ast.While, ast.Try)
                    self.assertNotIsInstance(each, kinds, (name, node.lineno))
        for name, node in nodes_of(ast.Try):
            self.assertEqual([ast.unparse(each.type) for each in node.handlers], ["WalkError"], (name, node.lineno))
            self.assertEqual([node.finalbody, node.orelse], [[], []], (name, node.lineno))

    def test_tables_of_functions(self):
        # A function is taken out of a table by a statement of its own, and only then called.
        for name, node in nodes_of(ast.Call):
            self.assertNotIsInstance(node.func, ast.Subscript, (name, node.lineno))

    def test_properties(self):
        read = {node.name for _, node in nodes_of(ast.FunctionDef) if node.decorator_list}
        stored = {node.attr for _, node in nodes_of(ast.Attribute) if not isinstance(node.ctx, ast.Load)}
        called = {node.func.attr for _, node in nodes_of(ast.Call) if isinstance(node.func, ast.Attribute)}
        self.assertFalse(read & (stored | called))
        methods = {node.name for _, each in nodes_of(ast.ClassDef) for node in each.body
                   if isinstance(node, ast.FunctionDef) and not node.decorator_list}
        self.assertFalse(methods & stored)
        # No method is read without being called.
        calls = [node.func for _, node in nodes_of(ast.Call)]
        for name, node in nodes_of(ast.Attribute):
            if isinstance(node.ctx, ast.Load) and node.attr in methods:
                self.assertTrue(any(node is each for each in calls), (name, node.lineno))

    def test_is(self):
        for name, node in nodes_of(ast.Compare):
            for sign, other in zip(node.ops, node.comparators):
                if isinstance(sign, (ast.Is, ast.IsNot)):
                    self.assertIsInstance(other, ast.Constant, (name, node.lineno))


if __name__ == "__main__":
    unittest.main()
