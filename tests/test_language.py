"""Those rules of the language that a look at the package's source can check."""

import ast
import builtins
import os
import re
import unittest

ROOT = os.path.dirname(os.path.dirname(os.path.abspath(__file__)))
PACKAGE = os.path.join(ROOT, "patchrooms")
LIBRARY = {"heapq": ("heappush", "heappop", "heapify", "heapreplace", "heappushpop"),
           "math": ("gcd", "lcm", "isqrt", "comb", "perm", "factorial"),
           "itertools": ("product", "combinations", "permutations", "chain", "accumulate", "pairwise", "islice",
                         "zip_longest"),
           "collections": ("defaultdict",)}
BUILTINS = ("len range enumerate zip min max sum abs sorted reversed int str bool bytes list tuple dict set frozenset "
            "isinstance ord repr any all divmod pow getattr hasattr setattr iter next map super Exception ValueError "
            "TypeError KeyError IndexError LookupError ZeroDivisionError ArithmeticError OverflowError RuntimeError "
            "NotImplementedError AttributeError StopIteration NotImplemented property staticmethod classmethod").split()
METHODS = ("append clear copy count endswith extend find get index insert isalnum isalpha isdigit islower isspace "
           "isupper items join keys ljust lower lstrip partition pop remove replace reverse rfind rjust rpartition "
           "rsplit rstrip setdefault split splitlines startswith strip update upper values zfill bit_length add "
           "discard sort __init__").split()
WORDS = ("type typing typing_extensions enum Enum IntEnum StrEnum Flag IntFlag Generic Protocol ABC ABCMeta namedtuple "
         "NamedTuple TypedDict TYPE_CHECKING abstractmethod register mro elements open input law version_info "
         "with_traceback add_note global nonlocal async await").split()
BARRED = (ast.Global, ast.AsyncFunctionDef, ast.AsyncFor, ast.AsyncWith, ast.Await, ast.Div, ast.MatMult, ast.Import,
          ast.AnnAssign)


def sources():
    found = {}
    for name in sorted(os.listdir(PACKAGE)):
        if name == "__pycache__":
            continue
        with open(os.path.join(PACKAGE, name), encoding="utf-8", newline="") as file:
            found[name] = file.read()
    return found


TREES = {name: ast.parse(text) for name, text in sources().items()}


def is_docstring(node):
    return isinstance(node, ast.Expr) and isinstance(node.value, ast.Constant) and isinstance(node.value.value, str)


def without_docstrings(tree):
    """The tree's own words: comments and docstrings left out."""
    tree = ast.parse(ast.unparse(tree))
    for node in ast.walk(tree):
        if hasattr(node, "body") and isinstance(node.body, list) and node.body and is_docstring(node.body[0]):
            node.body[0] = ast.Pass()
    return ast.unparse(tree)


def imported(tree):
    """Each imported name with the module that it comes from."""
    return {alias.name: node.module for node in tree.body if isinstance(node, ast.ImportFrom) for alias in node.names}


def defined(tree):
    found = []
    for node in tree.body:
        if isinstance(node, (ast.FunctionDef, ast.ClassDef)):
            found.append(node.name)
        elif isinstance(node, ast.Assign):
            found += [target.id for target in node.targets]
    return found


def bound_inside(tree):
    """Parameters and local variables."""
    found = set()
    for node in ast.walk(tree):
        if isinstance(node, ast.arg):
            found.add(node.arg)
        elif isinstance(node, ast.Name) and isinstance(node.ctx, ast.Store) and node.col_offset > 0:
            found.add(node.id)
        elif isinstance(node, ast.ExceptHandler) and node.name:
            found.add(node.name)
    return found


def made_at_once(node):
    """Whether the call makes what is iterated on the spot."""
    name = getattr(node.func, "id", "") or getattr(node.func, "attr", "")
    return name in ("zip", "enumerate", "reversed", "combinations", "permutations", "product", "items", "keys",
                    "values")


def inner_names(node):
    """The variables of a comprehension."""
    return {part.id for generator in node.generators for part in ast.walk(generator.target)
            if isinstance(part, ast.Name)}


COMPREHENSIONS = (ast.ListComp, ast.SetComp, ast.DictComp, ast.GeneratorExp)


class FilesTest(unittest.TestCase):

    def test_files_and_characters(self):
        self.assertIn("__init__.py", TREES)
        for name, text in sources().items():
            self.assertRegex(name, r"\A[a-z_0-9]+\.py\Z")
            self.assertTrue(all(" " <= sign <= "~" or sign == "\n" for sign in text), name)
            self.assertLessEqual(len(text.splitlines()), 399, name)
            for line in text.splitlines():
                self.assertLessEqual(len(line), 120, name + ": " + line)

    def test_functions_are_short(self):
        for name, tree in TREES.items():
            for node in ast.walk(tree):
                if isinstance(node, ast.FunctionDef):
                    self.assertLessEqual(node.end_lineno - node.lineno + 1, 40, name + ": " + node.name)

    def test_what_stands_at_module_level(self):
        for name, tree in TREES.items():
            kinds = [type(node) for node in tree.body if not is_docstring(node)]
            self.assertLessEqual(set(kinds), {ast.ImportFrom, ast.FunctionDef, ast.ClassDef, ast.Assign}, name)
            behind = kinds[kinds.count(ast.ImportFrom):]
            self.assertNotIn(ast.ImportFrom, behind, name)


class ImportsTest(unittest.TestCase):

    def test_names_come_from_the_file_that_defines_them(self):
        for name, tree in TREES.items():
            for word, place in imported(tree).items():
                if place in LIBRARY:
                    self.assertIn(word, LIBRARY[place], name)
                else:
                    self.assertTrue(place.startswith("patchrooms."), name)
                    self.assertIn(word, defined(TREES[place.split(".")[1] + ".py"]), name)
                used = [node for node in ast.walk(tree) if isinstance(node, ast.Name) and node.id == word]
                self.assertTrue(used, name + " does not use " + word)

    def test_no_circles(self):
        needs = {name[:-3]: {place.split(".")[1] for place in imported(tree).values() if place not in LIBRARY}
                 for name, tree in TREES.items()}
        done = set()
        while len(done) < len(needs):
            ready = {name for name in needs if name not in done and needs[name] <= done}
            self.assertTrue(ready, "files import from each other: " + str(set(needs) - done))
            done |= ready


class NamesTest(unittest.TestCase):

    def test_names_are_bound_once_and_mean_nothing_else(self):
        for name, tree in TREES.items():
            outside = list(imported(tree)) + defined(tree)
            self.assertEqual(len(outside), len(set(outside)), name)
            classes = {node.name for node in tree.body if isinstance(node, ast.ClassDef)}
            self.assertEqual(bound_inside(tree) & (set(imported(tree)) | classes), set(), name)
            self.assertEqual((bound_inside(tree) | set(outside)) & set(dir(builtins)), set(), name)
            for word in bound_inside(tree) | set(outside):
                self.assertRegex(word, r"\A_?([a-zA-Z]\w*)?\Z")

    def test_builtins_and_methods(self):
        for name, tree in TREES.items():
            known = set(imported(tree)) | set(defined(tree)) | bound_inside(tree) | set(BUILTINS)
            own = {node.name for other in TREES.values() for node in ast.walk(other)
                   if isinstance(node, ast.FunctionDef)}
            for node in ast.walk(tree):
                if isinstance(node, ast.Name):
                    self.assertIn(node.id, known, name)
                if isinstance(node, ast.Call) and isinstance(node.func, ast.Attribute):
                    self.assertIn(node.func.attr, METHODS + sorted(own), name)

    def test_words_that_do_not_occur(self):
        for name, tree in TREES.items():
            words = set(re.findall(r"\w+", without_docstrings(tree)))
            self.assertEqual(words & set(WORDS), set(), name)
            for word in ("dataclass", "overload", "contextmanager", "_wall"):
                self.assertNotIn(word, sources()[name], name)


class NodesTest(unittest.TestCase):

    def test_what_is_not_used(self):
        for name, tree in TREES.items():
            for node in ast.walk(tree):
                self.assertNotIsInstance(node, BARRED, name)
                if isinstance(node, ast.Constant):
                    self.assertNotIsInstance(node.value, (float, complex), name)
                    if isinstance(node.value, str):
                        self.assertNotIn("%", node.value, name)
                if isinstance(node, ast.FunctionDef):
                    # Of decorators the package has @property alone.
                    self.assertIn([ast.unparse(part) for part in node.decorator_list], ([], ["property"]), name)
                    self.assertTrue(not node.decorator_list or node not in tree.body, name)
                if isinstance(node, ast.Compare) and any(isinstance(op, (ast.Is, ast.IsNot)) for op in node.ops):
                    self.assertIsInstance(node.comparators[0], ast.Constant, name)

    def test_sets_are_not_iterated(self):
        for name, tree in TREES.items():
            parents = {child: node for node in ast.walk(tree) for child in ast.iter_child_nodes(node)}
            for node in ast.walk(tree):
                made = isinstance(node, ast.Call) and isinstance(node.func, ast.Name) and node.func.id == "set"
                if made or isinstance(node, (ast.Set, ast.SetComp)):
                    around = parents[node]
                    while isinstance(around, ast.BinOp):
                        around = parents[around]
                    called = isinstance(around, ast.Call) and getattr(around.func, "id", "") in ("sorted", "len")
                    self.assertTrue(called or isinstance(around, (ast.Compare, ast.Assign)), name)

    def test_no_name_means_two_things_in_comprehensions(self):
        for name, tree in TREES.items():
            for outer in ast.walk(tree):
                if isinstance(outer, COMPREHENSIONS):
                    inner = [node for node in ast.walk(outer) if isinstance(node, COMPREHENSIONS) and node is not outer]
                    for node in inner:
                        self.assertEqual(inner_names(outer) & inner_names(node), set(), name)

    def test_calls_pass_what_functions_take(self):
        takes = {node.name: node.args for tree in TREES.values() for node in tree.body
                 if isinstance(node, ast.FunctionDef)}
        for name, tree in TREES.items():
            own = {word: takes[word] for word in list(imported(tree)) + defined(tree) if word in takes}
            for node in ast.walk(tree):
                if isinstance(node, ast.Call) and getattr(node.func, "id", "") in own:
                    given = len(node.args) + len(node.keywords)
                    self.assertEqual(given, len(own[node.func.id].args), name + ": " + node.func.id)

    def test_views_are_iterated_at_once(self):
        takers = ("list", "tuple", "dict", "sorted", "sum", "any", "all", "enumerate", "zip", "min", "max", "len")
        for name, tree in TREES.items():
            parents = {child: node for node in ast.walk(tree) for child in ast.iter_child_nodes(node)}
            for node in ast.walk(tree):
                if isinstance(node, ast.Call) and made_at_once(node):
                    around = parents[node]
                    taken = isinstance(around, ast.Call) and getattr(around.func, "id", "") in takers
                    self.assertTrue(taken or isinstance(around, (ast.For, ast.comprehension)), name)


if __name__ == "__main__":
    unittest.main()
