"""The rules of LANGUAGE.md that a reading of the code can check, over every file of the package."""

import ast
import builtins
import io
import pathlib
import re
import tokenize
import unittest

PACKAGE = pathlib.Path(__file__).resolve().parent.parent / 'linkorder'

BUILTINS = set(
    'len range enumerate zip min max sum abs sorted reversed int str bool bytes list tuple dict set frozenset isinstance'
    ' ord repr any all divmod iter next super property staticmethod classmethod Exception ValueError TypeError KeyError'
    ' IndexError LookupError ZeroDivisionError ArithmeticError OverflowError RuntimeError NotImplementedError'
    ' AttributeError StopIteration NotImplemented'.split())
METHODS = set(
    'append clear copy count endswith extend find get index insert isalnum isalpha isdigit islower isspace isupper items'
    ' join keys ljust lower lstrip partition pop remove replace reverse rfind rjust rpartition rsplit rstrip setdefault'
    ' split splitlines startswith strip update upper values zfill bit_length add discard sort title capitalize swapcase'
    ' casefold center expandtabs removeprefix removesuffix rindex isascii isdecimal isnumeric istitle isidentifier'
    ' isprintable translate encode hex __init__'.split())
DUNDERS = set('__init__ __eq__ __repr__ __str__ __len__ __enter__ __exit__ __call__ __iter__'.split())
BARRED_WORDS = set(
    'type typing typing_extensions enum Enum IntEnum StrEnum Flag IntFlag Generic Protocol ABC ABCMeta namedtuple'
    ' NamedTuple TypedDict TYPE_CHECKING abstractmethod'.split())
BARRED_PARTS = ('dataclass', 'overload', 'contextmanager')
BARRED_NAMES = set(
    'register mro elements open input version_info with_traceback add_note attrgetter breakpoint builtins compile'
    ' copyright credits delattr dir eval exec exit gc getattr globals hasattr help id importlib license locals'
    ' methodcaller os quit setattr super type vars sys chr'.split())
BARRED_NODES = (
    ast.Global, ast.AsyncFunctionDef, ast.AsyncFor, ast.AsyncWith, ast.Await, ast.Div, ast.MatMult, ast.Import,
    ast.TryStar)
# These take no generators, because a class of the package has __eq__.
TAKE_LISTS = ('any', 'all', 'min', 'max', 'sum', 'sorted')
KEYWORDS = {'sorted': {'key', 'reverse'}, 'min': {'key', 'default'}, 'max': {'key', 'default'}, 'sum': {'start'},
            'enumerate': {'start'}, 'zip': {'strict'}}
CHANGES = ('append', 'clear', 'extend', 'insert', 'pop', 'remove', 'reverse', 'setdefault', 'update', 'sort', 'add', 'discard')
PLAIN_NAME = re.compile('[A-Za-z][A-Za-z0-9_]*')


def plain_value(node):
    """Tell whether an expression may stand at module level, as far as its shape shows."""
    allowed = (ast.Constant, ast.Tuple, ast.List, ast.Dict, ast.Name, ast.BinOp, ast.UnaryOp, ast.operator, ast.unaryop,
               ast.expr_context)
    return all(isinstance(part, allowed) for part in ast.walk(node))


def bound_names(tree):
    """Return (name, node) for everything that the code gives a name to, methods and attributes left out."""
    for node in ast.walk(tree):
        if isinstance(node, ast.Name) and isinstance(node.ctx, ast.Store):
            yield node.id, node
        elif isinstance(node, (ast.FunctionDef, ast.ClassDef)):
            yield node.name, node
        elif isinstance(node, ast.arg):
            yield node.arg, node
        elif isinstance(node, ast.alias):
            yield node.asname or node.name, node
        elif isinstance(node, ast.ExceptHandler) and node.name:
            yield node.name, node


def methods_of(tree):
    return [part for node in ast.walk(tree) if isinstance(node, ast.ClassDef) for part in node.body
            if isinstance(part, ast.FunctionDef)]


def text_faults(text):
    """Return the rules that the plain text breaks."""
    rows = text.split('\n')
    if len(rows) > 401:
        yield 'L10 file'
    for row in rows:
        if len(row) > 120:
            yield 'L10 line'
        if not all(' ' <= character <= '~' for character in row):
            yield 'L14 character'
    words = set(re.findall('[A-Za-z0-9_]+', text))
    if words & BARRED_WORDS or any(part in word for word in words for part in BARRED_PARTS):
        yield 'L17 word'
    for token in tokenize.generate_tokens(io.StringIO(text).readline):
        if token.type == tokenize.STRING and re.search(r'%|\\[^nt\\"\'\n]', token.string):
            yield 'L27 string'


def module_faults(tree):
    """Return the rules that the module level breaks."""
    seen, below_imports = [], False
    for at, node in enumerate(tree.body):
        if isinstance(node, ast.ImportFrom):
            if below_imports or node.level or not re.fullmatch(r'linkorder\.[a-z0-9_]+', node.module or ''):
                yield 'L2 import'
            seen += [alias.asname or alias.name for alias in node.names]
            continue
        docstring = at == 0 and isinstance(node, ast.Expr) and isinstance(node.value, ast.Constant)
        below_imports = below_imports or not docstring
        if isinstance(node, (ast.FunctionDef, ast.ClassDef)):
            seen.append(node.name)
        elif isinstance(node, ast.Assign) and plain_value(node.value):
            seen += [target.id for target in node.targets if isinstance(target, ast.Name)]
        elif not docstring:
            yield 'L3 statement'
    if len(seen) != len(set(seen)):
        yield 'L15 bound twice'
    below = [part for node in tree.body if isinstance(node, (ast.FunctionDef, ast.ClassDef)) for part in ast.walk(node)]
    if any(isinstance(part, (ast.Import, ast.ImportFrom)) for part in below):
        yield 'L2 import'


def name_faults(tree):
    """Return the rules that names break."""
    methods = methods_of(tree)
    fixed = {node.name for node in tree.body if isinstance(node, ast.ClassDef)}
    fixed |= {alias.asname or alias.name for node in tree.body if isinstance(node, ast.ImportFrom) for alias in node.names}
    known = {name for name, _ in bound_names(tree)}
    for name, node in bound_names(tree):
        if node in methods:
            if name.startswith('_') and name not in DUNDERS:
                yield 'L5 method'
            continue
        if not PLAIN_NAME.fullmatch(name):
            yield 'L12 name'
        if name in BARRED_NAMES:
            yield 'L17 name'
        if name in dir(builtins):
            yield 'L15 builtin'
        if name in fixed and isinstance(node, (ast.Name, ast.arg)):
            yield 'L15 class or import'
    for node in ast.walk(tree):
        if isinstance(node, ast.Name) and node.id not in known and node.id not in BUILTINS:
            yield 'L8 builtin'
        if isinstance(node, ast.Attribute) and node.attr in ('register', 'mro', 'elements', 'args', 'format'):
            yield 'L17 name'


def set_faults(tree):
    """Return the rules that sets break: where they stand, and what happens to the stored ones."""
    for parent in ast.walk(tree):
        for node in ast.iter_child_nodes(parent):
            if not makes_set(node):
                continue
            inside = isinstance(parent, ast.Call) and isinstance(parent.func, ast.Name) and parent.func.id in ('sorted', 'len')
            stored = isinstance(parent, ast.Assign) and [isinstance(target, ast.Name) for target in parent.targets] == [True]
            joined = isinstance(parent, ast.BinOp) and isinstance(parent.op, (ast.Sub, ast.BitAnd, ast.BitOr, ast.BitXor))
            if not inside and not stored and not joined and not isinstance(parent, ast.Compare):
                yield 'L24 set'


def function_parts(function):
    """Return everything inside a function, nested functions included."""
    return [part for statement in function.body for part in ast.walk(statement)]


def stored_set_faults(function):
    """Return the rules that the sets which a function stores break."""
    parents = {child: parent for parent in ast.walk(function) for child in ast.iter_child_nodes(parent)}
    makes = [part.targets[0].id for part in function_parts(function) if isinstance(part, ast.Assign)
             and isinstance(part.targets[0], ast.Name) and makes_set(part.value)]
    for node in function_parts(function):
        if not isinstance(node, ast.Name) or node.id not in makes:
            continue
        parent = parents[node]
        method = isinstance(parent, ast.Attribute) and parent.attr in ('add', 'discard')
        tested = isinstance(parent, ast.Compare) and (parent.left is not node or isinstance(parent.ops[0], (ast.Eq, ast.NotEq)))
        taken = isinstance(parent, ast.Call) and isinstance(parent.func, ast.Name) and parent.func.id in ('sorted', 'len')
        asked = isinstance(parent, (ast.If, ast.While, ast.UnaryOp))
        made = isinstance(parent, ast.Assign) and isinstance(node.ctx, ast.Store) and makes.count(node.id) == 1
        if not (method or tested or taken or asked or made):
            yield 'L24 stored set'


def makes_set(node):
    called = isinstance(node, ast.Call) and isinstance(node.func, ast.Name) and node.func.id == 'set'
    return called or isinstance(node, (ast.Set, ast.SetComp))


def loop_faults(loop):
    """Return the rules that a loop breaks by changing what it iterates over."""
    over = {part.id for part in ast.walk(loop.iter) if isinstance(part, ast.Name)}
    for part in [part for statement in loop.body for part in ast.walk(statement)]:
        if isinstance(part, ast.Call) and isinstance(part.func, ast.Attribute) and isinstance(part.func.value, ast.Name):
            if part.func.value.id in over and part.func.attr in CHANGES:
                yield 'L23 loop'
        if isinstance(part, (ast.Subscript, ast.Name)) and isinstance(part.ctx, (ast.Store, ast.Del)):
            name = part.value if isinstance(part, ast.Subscript) else part
            if isinstance(name, ast.Name) and name.id in over:
                yield 'L23 loop'


def call_faults(node):
    """Return the rules that the call of a builtin breaks by its keywords, or by what it iterates over."""
    called = node.func.id if isinstance(node.func, ast.Name) else ''
    names = {keyword.arg for keyword in node.keywords}
    if called in BUILTINS and not names <= KEYWORDS.get(called, set()):
        yield 'L22 keyword'
    if called in TAKE_LISTS and any(isinstance(part, ast.GeneratorExp) for part in node.args):
        yield 'L7 generator'


def expression_faults(node):
    """Return the rules that one expression or statement breaks by itself."""
    if isinstance(node, BARRED_NODES):
        yield 'L6 or L7 node'
    if isinstance(node, ast.Constant) and isinstance(node.value, (float, complex)):
        yield 'L7 float'
    if isinstance(node, ast.Compare):
        sides = [node.left] + node.comparators
        for at, sign in enumerate(node.ops):
            single = isinstance(sides[at + 1], ast.Constant) and sides[at + 1].value in (None, True, False)
            if isinstance(sign, (ast.Is, ast.IsNot)) and not single:
                yield 'L20 is'
    if isinstance(node, ast.Call):
        yield from call_faults(node)
    if isinstance(node, ast.For):
        yield from loop_faults(node)
    if isinstance(node, ast.Raise) and node.exc is not None:
        if not (isinstance(node.exc, ast.Call) and isinstance(node.exc.func, ast.Name)):
            yield 'L19 raise'
    if isinstance(node, ast.ExceptHandler):
        caught = ast.unparse(node.type) if node.type else 'all'
        if caught in ('all', 'Exception', 'TypeError', '()'):
            yield 'L19 except'
    if isinstance(node, ast.FunctionDef):
        yield from stored_set_faults(node)
        if node.end_lineno - node.lineno >= 40:
            yield 'L10 function'
        if node.args.posonlyargs:
            yield 'L4 parameters'
        if any(ast.unparse(mark) not in ('property', 'staticmethod', 'classmethod') for mark in node.decorator_list):
            yield 'L4 decorator'


def faults(text):
    """Return the rules that the code of one file breaks."""
    tree = ast.parse(text)
    found = list(text_faults(text)) + list(module_faults(tree)) + list(name_faults(tree)) + list(set_faults(tree))
    for node in ast.walk(tree):
        found += expression_faults(node)
    return found


def package_faults(trees):
    """Return the rules that only the files together show."""
    methods = {method.name for tree in trees.values() for method in methods_of(tree)}
    nodes = [node for tree in trees.values() for node in ast.walk(tree)]
    attributes = [node for node in nodes if isinstance(node, ast.Attribute)]
    assigned = {node.attr for node in attributes if isinstance(node.ctx, ast.Store)}
    called = {id(node.func) for node in nodes if isinstance(node, ast.Call)}
    if methods & assigned:
        yield f'L18 method and attribute {methods & assigned}'
    for node in attributes:
        if node.attr not in (methods | METHODS if id(node) in called else assigned):
            yield f'L18 or L25 attribute {node.attr}'
    defined = {file: {name for name, _ in bound_names(ast.Module(tree.body, []))} for file, tree in trees.items()}
    leads = {}
    for file, tree in trees.items():
        imports = [node for node in tree.body if isinstance(node, ast.ImportFrom)]
        leads[file] = {node.module.split('.')[-1] for node in imports}
        for node in imports:
            source = node.module.split('.')[-1]
            own = {alias.name for part in trees[source].body if isinstance(part, ast.ImportFrom) for alias in part.names}
            if any(alias.name not in defined[source] - own for alias in node.names):
                yield f'L16 import from {source}'
    while leads:
        free = [file for file in leads if not leads[file] & set(leads)]
        if not free:
            yield f'L16 circle of {sorted(leads)}'
            return
        leads = {file: leads[file] for file in leads if file not in free}


class PackageTest(unittest.TestCase):
    def files(self):
        return sorted(path for path in PACKAGE.iterdir() if path.name != '__pycache__')

    def test_the_folder_has_plain_files_alone(self):
        for path in self.files():
            self.assertTrue(path.is_file() and re.fullmatch(r'(__init__|[a-z][a-z0-9_]*)\.py', path.name), path)
            self.assertNotIn(path.stem, dir(builtins))
        self.assertTrue((PACKAGE / '__init__.py').is_file())
        self.assertLessEqual(len(self.files()), 100)

    def test_no_file_breaks_a_rule(self):
        for path in self.files():
            self.assertEqual(faults(path.read_bytes().decode('ascii')), [], path.name)

    def test_the_files_together_break_no_rule(self):
        trees = {path.stem: ast.parse(path.read_text()) for path in self.files()}
        self.assertEqual(list(package_faults(trees)), [])


class CheckerTest(unittest.TestCase):
    """The checks themselves find what they are there for."""

    def test_each_fault_is_found(self):
        for fault, text in (
            ('L10 line', 'A = "' + 'a' * 120 + '"'),
            ('L10 function', 'def f():\n' + '    pass\n' * 40),
            ('L10 file', '\n' * 401),
            ('L14 character', '# \u00e4'),
            ('L17 word', '# a type'),
            ('L17 word', '# a typeless dataclasses'),
            ('L27 string', 'A = "5 %"'),
            ('L27 string', 'A = "\\x41"'),
            ('L2 import', 'from os import path'),
            ('L2 import', 'from .errors import LinkError'),
            ('L2 import', 'A = 1\nfrom linkorder.errors import LinkError'),
            ('L2 import', 'def f():\n    from linkorder.errors import LinkError'),
            ('L6 or L7 node', 'import sys'),
            ('L6 or L7 node', 'def f(a):\n    return a / 2'),
            ('L3 statement', 'A = len("a")'),
            ('L3 statement', 'for a in ():\n    pass'),
            ('L15 bound twice', 'A = 1\nA = 2'),
            ('L15 builtin', 'def f(hash):\n    pass'),
            ('L15 class or import', 'class A:\n    pass\ndef f(A):\n    pass'),
            ('L12 name', 'def f(_a):\n    pass'),
            ('L17 name', 'def f(gc):\n    pass'),
            ('L8 builtin', 'def f(a):\n    return hash(a)'),
            ('L5 method', 'class A:\n    def __hash__(self):\n        return 1'),
            ('L7 float', 'A = 1.5'),
            ('L20 is', 'def f(a, b):\n    return a is b'),
            ('L7 generator', 'def f(a):\n    return all(b for b in a)'),
            ('L22 keyword', 'def f(a):\n    return list(a, key=len)'),
            ('L23 loop', 'def f(a):\n    for b in a:\n        a.append(b)'),
            ('L23 loop', 'def f(a):\n    for at, b in enumerate(a):\n        a[at] = b'),
            ('L23 loop', 'def f(a, k):\n    for b in a[k]:\n        k = b'),
            ('L24 stored set', 'def f(a):\n    b = set(a)\n    return b'),
            ('L24 stored set', 'def f(a):\n    b = set(a)\n    for c in b:\n        c()'),
            ('L24 stored set', 'def f(a):\n    b = {c for c in a}\n    b = {c for c in b}'),
            ('L24 stored set', 'def f(a):\n    b = set()\n    a(b)'),
            ('L19 raise', 'def f(a):\n    raise a'),
            ('L19 except', 'def f(a):\n    try:\n        a()\n    except Exception:\n        pass'),
            ('L4 decorator', '@cache\ndef f(a):\n    pass'),
            ('L4 parameters', 'def f(a, /):\n    pass'),
            ('L24 set', 'def f(a):\n    return set(a)'),
            ('L24 set', 'def f(a):\n    for b in {c for c in a}:\n        pass'),
        ):
            self.assertIn(fault, faults(text), text)

    def test_faults_of_files_together_are_found(self):
        errors = ast.parse('class Bad(ValueError):\n    pass')
        for texts in (
            {'a': 'class A:\n    def b(self):\n        return 1\n    def c(self):\n        self.b = 1'},
            {'a': 'def f(a):\n    return a.b'},
            {'a': 'def f(a):\n    return a.format(1)'},
            {'a': 'from linkorder.errors import Worse'},
            {'a': 'from linkorder.errors import Bad', 'b': 'from linkorder.a import Bad'},
            {'a': 'from linkorder.b import B\nA = 1', 'b': 'from linkorder.a import A\nB = 1'},
        ):
            trees = {file: ast.parse(text) for file, text in texts.items()}
            self.assertEqual(len(list(package_faults({'errors': errors, **trees}))), 1, texts)


if __name__ == '__main__':
    unittest.main()
