"""The rules of the language that a plain look at the code can see; some are held more strictly than they are written."""

import ast
import builtins
import os
import re
import unittest
import warnings

FOLDER = os.path.join(os.path.dirname(os.path.dirname(os.path.abspath(__file__))), "linklines")

LIBRARY = {"heapq": {"heappush", "heappop", "heapify", "heapreplace", "heappushpop"},
           "math": {"gcd", "lcm", "isqrt", "comb", "perm", "factorial"},
           "itertools": {"product", "combinations", "permutations"}}
BUILTINS = set("""len range enumerate zip min max sum abs sorted reversed int str bool list tuple dict isinstance ord
repr any all divmod ValueError KeyError""".split())
METHODS = set("""append clear copy count endswith extend find get index insert isalnum isalpha isdigit islower isspace
isupper items join keys ljust lower lstrip partition pop remove replace reverse rfind rjust rpartition rsplit rstrip
setdefault split splitlines startswith strip update upper values zfill bit_length""".split())
ATTRIBUTES = set("count index title find get join lower upper split strip copy add".split())
NOWHERE = set("register mro elements open input law version_info with_traceback add_note".split())
NOT_NAMES = set("""attrgetter breakpoint builtins compile copyright credits delattr dir eval exec exit gc getattr globals
hasattr help id importlib license locals methodcaller os quit setattr super type vars sys""".split())
NOT_WORDS = set("""type typing typing_extensions enum Enum IntEnum StrEnum Flag IntFlag Generic Protocol ABC ABCMeta
namedtuple NamedTuple TypedDict TYPE_CHECKING abstractmethod _wall _WallAttr""".split())
STATEMENTS = (ast.Assign, ast.Try, ast.AugAssign, ast.If, ast.While, ast.For, ast.Return, ast.Break, ast.Continue, ast.Pass,
              ast.Raise, ast.Expr, ast.FunctionDef, ast.Delete, ast.ClassDef, ast.ImportFrom)
NOT_NODES = (ast.Set, ast.SetComp, ast.GeneratorExp, ast.JoinedStr, ast.Lambda, ast.Yield, ast.Await, ast.NamedExpr,
             ast.Div, ast.With, ast.Global, ast.Nonlocal)
AT_ONCE = {"zip", "enumerate", "reversed", "items", "keys", "values", "permutations", "range"}
CHANGING = {"append", "clear", "extend", "insert", "pop", "remove", "reverse", "setdefault", "update"}


def sources():
    for name in sorted(os.listdir(FOLDER)):
        if name != "__pycache__":
            with open(os.path.join(FOLDER, name), encoding="utf-8") as file:
                yield name, file.read()


def trees():
    return [(name, ast.parse(text)) for name, text in sources()]


def functions_of(tree):
    return [node for node in ast.walk(tree) if isinstance(node, ast.FunctionDef)]


def parameters_of(function):
    return [part.arg for part in [*function.args.posonlyargs, *function.args.args, *function.args.kwonlyargs]]


def stored_names(node):
    return {part.id for part in ast.walk(node) if isinstance(part, ast.Name) and isinstance(part.ctx, ast.Store)}


def own_methods():
    return {node.name for _, tree in trees() for made in tree.body if isinstance(made, ast.ClassDef)
            for node in made.body if isinstance(node, ast.FunctionDef)}


def own_attributes():
    return {node.attr for _, tree in trees() for node in ast.walk(tree)
            if isinstance(node, ast.Attribute) and isinstance(node.ctx, ast.Store)}


class TestLanguage(unittest.TestCase):
    def test_files(self):
        for name, text in sources():
            self.assertRegex(name, r"^[a-z_]+\.py$")
            self.assertLessEqual(len(text.splitlines()), 399, name)
            self.assertTrue(all(sign == "\n" or " " <= sign <= "~" for sign in text), name)
            for line in text.splitlines():
                self.assertLessEqual(len(line), 120, name + line)
            with warnings.catch_warnings():
                warnings.simplefilter("error")
                compile(text, name, "exec")

    def test_imports(self):
        graph = {}
        defined = {name[:-3]: {node.name for node in tree.body if isinstance(node, (ast.FunctionDef, ast.ClassDef))}
                   | stored_names(ast.Module([n for n in tree.body if isinstance(n, ast.Assign)], []))
                   for name, tree in trees()}
        for name, tree in trees():
            body = tree.body[1:] if isinstance(tree.body[0], ast.Expr) else tree.body
            kinds = [isinstance(node, ast.ImportFrom) for node in body]
            self.assertEqual(kinds, sorted(kinds, reverse=True), name)
            graph[name[:-3]] = set()
            for node in ast.walk(tree):
                self.assertNotIsInstance(node, ast.Import)
                if isinstance(node, ast.ImportFrom):
                    self.assertEqual(node.level, 0)
                    words = {alias.name for alias in node.names}
                    self.assertTrue(all(alias.asname is None for alias in node.names))
                    if node.module in LIBRARY:
                        self.assertLessEqual(words, LIBRARY[node.module])
                        continue
                    package, file = node.module.split(".")
                    self.assertEqual(package, "linklines")
                    self.assertLessEqual(words, defined[file], (name, file))
                    graph[name[:-3]].add(file)
        done = set()
        while len(done) < len(graph):
            free = {file for file in graph if file not in done and graph[file] <= done}
            self.assertTrue(free, "files import from each other")
            done |= free

    def test_imports_are_used(self):
        for name, tree in trees():
            imported = {alias.name for node in tree.body if isinstance(node, ast.ImportFrom) for alias in node.names}
            used = {node.id for node in ast.walk(tree) if isinstance(node, ast.Name)}
            self.assertLessEqual(imported, used, name)

    def test_module_level(self):
        for name, tree in trees():
            self.assertTrue(ast.get_docstring(tree), name)
            bound = []
            for node in tree.body:
                if isinstance(node, (ast.FunctionDef, ast.ClassDef)):
                    bound.append(node.name)
                elif isinstance(node, ast.ImportFrom):
                    bound.extend(alias.name for alias in node.names)
                elif isinstance(node, ast.Assign):
                    self.assertEqual(len(node.targets), 1)
                    bound.append(node.targets[0].id)
                    worth = ast.literal_eval(node.value)
                    parts = list(worth.values()) if isinstance(worth, dict) else worth
                    self.assertTrue(isinstance(parts, (str, int)) or not any(isinstance(p, (list, dict)) for p in parts))
                else:
                    self.assertIsInstance(node, ast.Expr)
                    self.assertIsInstance(node.value.value, str)
            self.assertEqual(len(bound), len(set(bound)), name)

    def test_functions(self):
        for name, tree in trees():
            for function in functions_of(tree):
                self.assertLessEqual(function.end_lineno - function.lineno + 1, 40, function.name)
                self.assertEqual(function.decorator_list, [])
                inner = [node for node in functions_of(function) if node is not function]
                self.assertEqual(inner, [], (name, function.name))

    def test_statements_and_expressions(self):
        for name, tree in trees():
            for node in ast.walk(tree):
                where = (name, getattr(node, "lineno", 0))
                if isinstance(node, ast.stmt):
                    self.assertIsInstance(node, STATEMENTS, where)
                self.assertNotIsInstance(node, NOT_NODES, where)
                if isinstance(node, ast.Constant):
                    self.assertNotIsInstance(node.value, (float, bytes, complex), where)
                    if isinstance(node.value, str):
                        self.assertNotIn("%", node.value, where)
                        self.assertNotRegex(node.value, r"\._{1,2}$")
                if isinstance(node, ast.Compare):
                    for sign, side in zip(node.ops, node.comparators):
                        if isinstance(sign, (ast.Is, ast.IsNot)):
                            self.assertIsInstance(side, ast.Constant, where)
                if isinstance(node, ast.BinOp):
                    self.assertNotIsInstance(node.op, (ast.Pow, ast.MatMult), where)

    def test_names(self):
        barred = set(dir(builtins))
        for name, text in sources():
            tree = ast.parse(text)
            outer = {alias.name for node in tree.body if isinstance(node, ast.ImportFrom) for alias in node.names}
            outer |= {node.name for node in tree.body if isinstance(node, ast.ClassDef)}
            for node in ast.walk(tree):
                words = []
                if isinstance(node, ast.FunctionDef):
                    words = [*parameters_of(node), *stored_names(node)]
                    self.assertEqual(set(words) & outer, set(), (name, node.name))
                    words.append(node.name)
                if isinstance(node, ast.ClassDef):
                    words = [node.name]
                if isinstance(node, ast.Assign):
                    words = list(stored_names(node))
                for word in words:
                    self.assertNotIn(word, barred | NOWHERE | NOT_NAMES, name)
                    self.assertTrue(word in ("__init__", "__eq__", "__len__", "_") or re.match(r"^_?[A-Za-z]\w*$", word), word)
                if isinstance(node, ast.Attribute):
                    self.assertNotIn(node.attr, NOWHERE, name)
                if isinstance(node, ast.Name) and isinstance(node.ctx, ast.Load):
                    self.assertNotEqual(node.id, "_", name)
            bare = re.sub(r'""".*?"""|#[^\n]*', "", text, flags=re.S)
            self.assertEqual(set(re.findall(r"\w+", bare)) & NOT_WORDS, set(), name)

    def test_builtins(self):
        for name, tree in trees():
            for node in ast.walk(tree):
                if isinstance(node, ast.Name) and isinstance(node.ctx, ast.Load) and hasattr(builtins, node.id):
                    self.assertIn(node.id, BUILTINS, (name, node.lineno))

    def test_methods_and_attributes(self):
        methods, attributes = own_methods(), own_attributes()
        self.assertEqual(methods & attributes, set())
        theirs = {word for made in (str, int, list, dict, set, bytes) for word in dir(made)}
        # L26 lets methods have the names of the methods of builtin values
        self.assertLessEqual((methods - {"__init__", "__eq__", "__len__"}) & theirs, METHODS)
        self.assertLessEqual(attributes & theirs, ATTRIBUTES)
        for name, tree in trees():
            called = {id(node.func) for node in ast.walk(tree) if isinstance(node, ast.Call)}
            for node in ast.walk(tree):
                if isinstance(node, ast.Attribute):
                    known = methods | METHODS if id(node) in called else attributes
                    self.assertIn(node.attr, known, (name, node.lineno))

    def test_classes(self):
        for name, tree in trees():
            for made in tree.body:
                if isinstance(made, ast.ClassDef):
                    self.assertEqual(made.decorator_list, [])
                    words = [node.name for node in made.body if isinstance(node, ast.FunctionDef)]
                    self.assertEqual(len(words), len(set(words)))
                    for node in made.body:
                        self.assertIsInstance(node, (ast.FunctionDef, ast.Expr, ast.Pass))
                        if getattr(node, "name", "") == "__init__":
                            returned = [n for n in ast.walk(node) if isinstance(n, ast.Return)]
                            self.assertEqual(returned, [], (name, made.name))
                        if getattr(node, "name", "") == "__eq__":
                            self.assertEqual(stored_names(node), set(), (name, made.name))

    def test_what_is_iterated_at_once_is_not_kept(self):
        for name, tree in trees():
            allowed = set()
            for node in ast.walk(tree):
                if isinstance(node, (ast.For, ast.comprehension)):
                    allowed.add(id(node.iter))
                if isinstance(node, ast.Call) and isinstance(node.func, ast.Name) and node.args:
                    if node.func.id in ("list", "tuple", "dict", "sorted", "enumerate", "zip"):
                        allowed.update(id(part) for part in node.args)
                if isinstance(node, ast.Assign) and getattr(getattr(node.value, "func", None), "id", "") == "range":
                    allowed.add(id(node.value))
                if isinstance(node, ast.Call) and isinstance(node.func, ast.Name) and node.args:
                    if node.func.id == "reversed" and getattr(node.args[0], "func", None) is not None:
                        allowed.update(id(part) for part in node.args if part.func.id == "range")
            for node in ast.walk(tree):
                if isinstance(node, ast.Call):
                    word = getattr(node.func, "id", getattr(node.func, "attr", ""))
                    if word in AT_ONCE:
                        self.assertIn(id(node), allowed, (name, node.lineno))

    def test_loops_do_not_change_what_they_go_over(self):
        for name, tree in trees():
            for loop in ast.walk(tree):
                if isinstance(loop, ast.For):
                    over = {ast.unparse(node) for node in ast.walk(loop.iter)
                            if isinstance(node, (ast.Name, ast.Attribute))}
                    for node in ast.walk(ast.Module(loop.body, [])):
                        if isinstance(node, ast.Call) and isinstance(node.func, ast.Attribute):
                            if node.func.attr in CHANGING:
                                self.assertNotIn(ast.unparse(node.func.value), over, (name, node.lineno))
                        if isinstance(node, (ast.Assign, ast.AugAssign, ast.Delete)):
                            targets = getattr(node, "targets", None) or [node.target]
                            for target in targets:
                                if isinstance(target, ast.Subscript):
                                    self.assertNotIn(ast.unparse(target.value), over, (name, node.lineno))

    def test_stars_in_calls_stand_before_plain_things(self):
        for name, tree in trees():
            for node in ast.walk(tree):
                if isinstance(node, ast.Call):
                    self.assertTrue(all(word.arg is not None for word in node.keywords), (name, node.lineno))
                    for part in node.args:
                        if isinstance(part, ast.Starred):
                            self.assertIsInstance(part.value, (ast.Name, ast.Attribute), (name, node.lineno))
                if isinstance(node, ast.Subscript):
                    inner = [part for part in ast.walk(node.slice) if isinstance(part, ast.Starred)]
                    self.assertEqual(inner, [], (name, node.lineno))

    def test_tries_catch_own_errors_and_end_in_assignments(self):
        own = {node.name for name, tree in trees() if name == "errors.py" for node in tree.body
               if isinstance(node, ast.ClassDef)}
        for name, tree in trees():
            for node in ast.walk(tree):
                if isinstance(node, ast.Try):
                    self.assertLessEqual({handler.type.id for handler in node.handlers}, own, name)
                    for part in node.finalbody:
                        self.assertIsInstance(part, ast.Assign, name)
                        told = [each for each in ast.walk(part.value) if isinstance(each, ast.expr)]
                        self.assertTrue(all(isinstance(each, (ast.Name, ast.Tuple)) for each in told), name)

    def test_no_target_names_a_thing_twice(self):
        for name, tree in trees():
            for node in ast.walk(tree):
                if isinstance(node, (ast.For, ast.comprehension)):
                    words = [part.id for part in ast.walk(node.target) if isinstance(part, ast.Name)]
                    self.assertEqual(len(words), len(set(words)), name)

    def test_raises_make_their_error_on_the_spot(self):
        errors = {node.name for name, tree in trees() if name == "errors.py" for node in tree.body
                  if isinstance(node, ast.ClassDef)}
        for name, tree in trees():
            for node in ast.walk(tree):
                if isinstance(node, ast.Raise):
                    self.assertIsInstance(node.exc, ast.Call, name)
                    self.assertIn(node.exc.func.id, errors, name)
