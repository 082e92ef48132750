"""Rules of the language that the files of the package keep, as far as a walk through their trees can see them."""

import ast
import builtins
import io
import pathlib
import re
import tokenize
import unittest
import warnings

PACKAGE = pathlib.Path(__file__).resolve().parent.parent / "glitchnet"

ERRORS = set("""Exception ValueError TypeError KeyError IndexError LookupError ZeroDivisionError ArithmeticError
    OverflowError RuntimeError NotImplementedError AttributeError StopIteration""".split())
BUILTINS = ERRORS | set("""len range enumerate zip min max sum abs sorted reversed int str bool bytes list tuple dict
    set isinstance ord repr any all divmod iter next NotImplemented""".split())
METHODS = set("""append clear copy count endswith extend find get index insert isalnum isalpha isdigit islower isspace
    isupper items join keys ljust lower lstrip partition pop remove replace reverse rfind rjust rpartition rsplit rstrip
    setdefault split splitlines startswith strip update upper values zfill bit_length add discard sort""".split())
NOT_ATTRIBUTES = set("""items keys values pop update append clear extend insert remove reverse setdefault sort args
    encode decode hex fromhex format format_map mro as_integer_ratio bit_count conjugate from_bytes is_integer
    to_bytes""".split())
DOUBLES = set("""__init__ __eq__ __repr__ __str__ __len__ __enter__ __exit__ __call__ __iter__""".split())
NOWHERE = set("""register mro elements open input law version_info with_traceback add_note attrgetter breakpoint builtins
    compile copyright credits delattr dir eval exec exit gc getattr globals hasattr help id importlib license locals
    methodcaller os quit setattr super type vars sys""".split())
WORDS = re.compile(r"\b(type|typing|typing_extensions|enum|Enum|IntEnum|StrEnum|Flag|IntFlag|Generic|Protocol|ABC"
                   r"|ABCMeta|namedtuple|NamedTuple|TypedDict|TYPE_CHECKING|abstractmethod)\b"
                   r"|dataclass|overload|contextmanager")
STATEMENTS = (ast.Module, ast.FunctionDef, ast.ClassDef, ast.ImportFrom, ast.Assign, ast.AugAssign, ast.If, ast.While,
              ast.For, ast.Return, ast.Break, ast.Continue, ast.Pass, ast.Raise, ast.Assert, ast.Delete, ast.Nonlocal,
              ast.Try, ast.Expr)
SIGNS = (ast.Add, ast.Sub, ast.Mult, ast.FloorDiv, ast.Mod, ast.Pow, ast.LShift, ast.RShift, ast.BitOr, ast.BitXor,
         ast.BitAnd)
TAKERS = set("list tuple dict sorted sum min max any all join".split())


def plain(node):
    """Whether an expression may stand at module level."""
    if isinstance(node, ast.Constant):
        return not isinstance(node.value, (float, complex))
    if isinstance(node, ast.UnaryOp):
        return plain(node.operand)
    if isinstance(node, ast.BinOp):
        return plain(node.left) and plain(node.right)
    if isinstance(node, (ast.Tuple, ast.List)):
        return all(map(plain, node.elts))
    if isinstance(node, ast.Dict):
        return all(map(plain, node.keys)) and all(map(plain, node.values))
    return isinstance(node, ast.Name)


def bound_names(node):
    """The names that a statement at module level binds."""
    if isinstance(node, (ast.FunctionDef, ast.ClassDef)):
        return [node.name]
    if isinstance(node, ast.ImportFrom):
        return [alias.asname or alias.name for alias in node.names]
    if isinstance(node, ast.Assign):
        return [target.id for target in node.targets if isinstance(target, ast.Name)]
    return []


class Source:
    """A file of the package, its tree, and the faults found in it."""

    def __init__(self, name, text):
        self.name = name
        self.text = text
        with warnings.catch_warnings():
            warnings.simplefilter("error")
            self.tree = ast.parse(text)
            compile(text, name, "exec")
        self.above = {}
        for node in ast.walk(self.tree):
            for child in ast.iter_child_nodes(node):
                self.above[child] = node
        self.faults = []

    def fault(self, rule, node):
        self.faults.append("%s %s:%s" % (rule, self.name, getattr(node, "lineno", node)))

    def top_names(self):
        return [name for node in self.tree.body for name in bound_names(node)]

    def imports(self):
        return [node for node in self.tree.body if isinstance(node, ast.ImportFrom)]


def check_text(source):
    lines = source.text.split("\n")
    if len(lines) > 400:
        source.fault("L10", 400)
    for number, line in enumerate(lines, 1):
        if len(line) > 120:
            source.fault("L10", number)
        if re.search("[^ -~]", line):
            source.fault("L14", number)
        if WORDS.search(line):
            source.fault("L17", number)
    for token in tokenize.generate_tokens(io.StringIO(source.text).readline):
        if token.type == tokenize.STRING:
            if "%" in token.string or re.search(r"\\[^nt\\'\"]", token.string):
                source.fault("L27", token.start[0])


def check_top(source):
    body = source.tree.body
    names = source.top_names()
    if len(names) != len(set(names)):
        source.fault("L15", 1)
    for at, node in enumerate(body):
        if isinstance(node, ast.Expr) and at == 0 and isinstance(node.value, ast.Constant):
            continue
        if isinstance(node, (ast.FunctionDef, ast.ClassDef)):
            continue
        if isinstance(node, ast.Import):
            source.fault("L2", node)
            continue
        if isinstance(node, ast.ImportFrom):
            if node.level or not node.module.startswith("glitchnet.") or any(a.name == "*" for a in node.names):
                source.fault("L2", node)
            if any(not isinstance(above, (ast.ImportFrom, ast.Expr)) for above in body[:at]):
                source.fault("L2", node)
            continue
        if not isinstance(node, ast.Assign) or len(bound_names(node)) != 1 or not plain(node.value):
            source.fault("L3", node)


def check_statement(source, node):
    if isinstance(node, ast.stmt) and not isinstance(node, STATEMENTS):
        source.fault("L6", node)
    if isinstance(node, ast.Expr) and not isinstance(node.value, ast.Call):
        docstring = isinstance(node.value, ast.Constant) and isinstance(node.value.value, str)
        if not docstring or source.above[node].body[0] is not node:
            source.fault("L6", node)
    if isinstance(node, ast.ExceptHandler) and node.type is None:
        source.fault("L19", node)
    if isinstance(node, ast.Raise) and node.exc is not None and not isinstance(node.exc, ast.Call):
        source.fault("L19", node)
    if isinstance(node, (ast.FunctionDef, ast.ClassDef)):
        if node.decorator_list:
            source.fault("L4", node)
        if node.name.startswith("_") and node.name not in DOUBLES:
            source.fault("L12", node)
    if isinstance(node, ast.ClassDef) and not isinstance(source.above[node], ast.Module):
        source.fault("L15", node)
    if isinstance(node, ast.FunctionDef):
        if node.end_lineno - node.lineno + 1 > 40:
            source.fault("L10", node)
        if node.args.posonlyargs or not all(plain(value) for value in node.args.defaults):
            source.fault("L4", node)


def check_expression(source, node):
    above = source.above.get(node)
    if isinstance(node, ast.Constant) and isinstance(node.value, (float, complex)):
        source.fault("L7", node)
    if isinstance(node, ast.operator) and not isinstance(node, SIGNS):
        source.fault("L7", above)
    if isinstance(node, ast.BinOp) and isinstance(node.op, ast.Pow) and not isinstance(node.right, ast.Constant):
        source.fault("L27", node)
    if isinstance(node, ast.Compare) and any(isinstance(op, (ast.Is, ast.IsNot)) for op in node.ops):
        if not all(isinstance(side, ast.Constant) and side.value in (None, True, False) for side in node.comparators):
            source.fault("L20", node)
    if isinstance(node, ast.GeneratorExp):
        called = above.func if isinstance(above, ast.Call) else None
        if getattr(called, "id", getattr(called, "attr", None)) not in TAKERS:
            source.fault("L7", node)
    if isinstance(node, (ast.Set, ast.SetComp)) or is_call_of(node, "set"):
        stored = isinstance(above, ast.Assign) and isinstance(above.targets[0], ast.Name)
        if not (stored or is_call_of(above, "sorted", "len") or isinstance(above, (ast.Compare, ast.BinOp))):
            source.fault("L24", node)
    if is_call_of(node, "zip", "enumerate", "reversed", "range") and isinstance(above, (ast.Assign, ast.Return)):
        source.fault("L23", node)


def is_call_of(node, *names):
    return isinstance(node, ast.Call) and isinstance(node.func, ast.Name) and node.func.id in names


def names_in(node):
    """The names that a node brings in or uses."""
    if isinstance(node, ast.Name):
        return [node.id]
    if isinstance(node, ast.arg):
        return [node.arg]
    if isinstance(node, (ast.FunctionDef, ast.ClassDef)):
        return [node.name]
    if isinstance(node, ast.Attribute):
        return [node.attr]
    return []


def check_names(source, own_methods):
    top = set(source.top_names())
    outer = {name for node in source.imports() for name in bound_names(node)}
    outer |= {node.name for node in source.tree.body if isinstance(node, ast.ClassDef)}
    for node in ast.walk(source.tree):
        for name in names_in(node):
            if name in NOWHERE or name.startswith("_") and name not in DOUBLES:
                source.fault("L17", node)
        stored = isinstance(node, ast.Name) and not isinstance(node.ctx, ast.Load)
        if stored or isinstance(node, ast.arg):
            name = names_in(node)[0]
            if hasattr(builtins, name) or name in outer:
                source.fault("L15", node)
        if isinstance(node, ast.Name) and isinstance(node.ctx, ast.Load) and hasattr(builtins, node.id):
            if node.id not in BUILTINS and node.id not in top:
                source.fault("L8", node)
        if isinstance(node, ast.Attribute):
            called = isinstance(source.above[node], ast.Call) and source.above[node].func is node
            if called and node.attr not in METHODS and node.attr not in own_methods and node.attr not in DOUBLES:
                source.fault("L25", node)
            if not called and (node.attr in NOT_ATTRIBUTES or node.attr in own_methods):
                source.fault("L26", node)


def methods_in(source):
    return {node.name for holder in source.tree.body if isinstance(holder, ast.ClassDef)
            for node in holder.body if isinstance(node, ast.FunctionDef)}


def faults_in(sources):
    """All faults in the files of a package, given by their names."""
    own_methods = set().union(*[methods_in(source) for source in sources.values()])
    for source in sources.values():
        check_text(source)
        check_top(source)
        check_names(source, own_methods)
        for node in ast.walk(source.tree):
            if not isinstance(node, ast.Module):
                check_statement(source, node)
                check_expression(source, node)
    check_imports(sources)
    return [fault for source in sources.values() for fault in source.faults]


def check_imports(sources):
    """Each import names the file that defines the name, and none leads round to itself."""
    reach = {}
    for name, source in sources.items():
        reach[name] = set()
        for node in source.imports():
            other = (node.module or "").partition(".")[2]
            reach[name].add(other)
            here = {made for top in sources[other].tree.body if not isinstance(top, ast.ImportFrom)
                    for made in bound_names(top)} if other in sources else set()
            if not all(alias.name in here for alias in node.names):
                source.fault("L16", node)
    for step in sources:
        for name in reach:
            for other in list(reach[name]):
                reach[name] |= reach.get(other, set())
    for name in reach:
        if name in reach[name]:
            sources[name].fault("L16", 1)


def package_sources():
    return {path.stem: Source(path.stem, path.read_text()) for path in sorted(PACKAGE.glob("*.py"))}


class LanguageTest(unittest.TestCase):
    def test_files(self):
        names = sorted(path.name for path in PACKAGE.iterdir() if path.name != "__pycache__")
        self.assertIn("__init__.py", names)
        self.assertLessEqual(len(names), 100)
        for name in names:
            self.assertRegex(name, r"\A(__init__|[a-z][a-z0-9_]*)\.py\Z")
            self.assertFalse(name != "__init__.py" and hasattr(builtins, name[:-3]))

    def test_the_package_keeps_the_rules(self):
        self.assertEqual(faults_in(package_sources()), [])


class FaultsTest(unittest.TestCase):
    """The walk itself sees what breaks a rule."""

    def rules(self, text):
        return {fault.split(" ")[0] for fault in faults_in({"one": Source("one", text)})}

    def test_a_clean_file(self):
        text = '"""Why."""\n\nMOST = 3\n\n\ndef told(xs):\n    """What."""\n    return sorted(set(xs))\n'
        self.assertEqual(self.rules(text), set())

    def test_broken_rules(self):
        inside = "def told(xs, k):\n    "
        broken = {
            "L2": ["import os\n", "from os import path\n", "from .nets import is_net\n"],
            "L3": ["print(3)\n", "A, B = 1, 2\n", "A = len([1])\n", "for a in (1, 2):\n    pass\n"],
            "L4": ["@told\ndef other():\n    return 1\n", "def told(a, /):\n    return a\n",
                   "def told(a=len('a')):\n    return a\n"],
            "L6": [inside + "global A\n", "async def told():\n    return 1\n", inside + "k\n"],
            "L7": [inside + "return k / 2\n", inside + "return 0.5\n", inside + "rest = (x for x in xs)\n"],
            "L8": [inside + "return map(len, xs)\n", inside + "print(k)\n", inside + "return round(k)\n"],
            "L10": [inside + "k = 1\n    " * 40 + "return k\n", "A = '" + "a" * 130 + "'\n", "A = 1\n" + "\n" * 400],
            "L14": ["A = '\u00e9'\n", "def told():\n\treturn 1\n"],
            "L15": ["A = 1\nA = 2\n", inside + "list = xs\n", "def told(len):\n    return 1\n"],
            "L16": ["from glitchnet.one import told\n", "from glitchnet.two import told\n"],
            "L17": ["# a type\n", "def told(input):\n    return input\n", "def _told():\n    return 1\n"],
            "L19": [inside + "try:\n        k = xs[0]\n    except:\n        k = 1\n", inside + "raise ValueError\n"],
            "L20": [inside + "return k is 3 + k\n", inside + "return k is xs\n"],
            "L23": [inside + "return zip(xs, xs)\n", inside + "k = range(3)\n"],
            "L24": [inside + "return set(xs)\n", inside + "for k in {1, 2}:\n        pass\n"],
            "L25": [inside + "return xs.encode()\n", inside + "return xs.issubset(xs)\n"],
            "L26": [inside + "return xs.keys\n", inside + "return xs.args\n"],
            "L27": [inside + "return 2 ** k\n", "A = 'a %'\n", "A = '\\x41'\n"],
        }
        for rule, texts in broken.items():
            for text in texts:
                self.assertIn(rule, self.rules(text), text)


if __name__ == "__main__":
    unittest.main()
