"""Looks whether the package's files keep to the small part of Python that the program is written in.

Each fault is told as "LINE: RULE words". What only a reader can see is left to a reader.
"""
import ast
import builtins
import re

STATEMENTS = (
    ast.Assign, ast.AugAssign, ast.If, ast.While, ast.For, ast.Return, ast.Break, ast.Continue, ast.Pass,
    ast.Raise, ast.Try, ast.Expr, ast.FunctionDef, ast.ClassDef, ast.ImportFrom,
)
EXPRESSIONS = (
    ast.Constant, ast.List, ast.Tuple, ast.Dict, ast.Set, ast.BinOp, ast.UnaryOp, ast.BoolOp, ast.Compare,
    ast.IfExp, ast.Call, ast.Attribute, ast.Subscript, ast.Slice, ast.ListComp, ast.JoinedStr,
    ast.FormattedValue, ast.Name, ast.Lambda,
)
BUILTINS = """len range enumerate zip min max sum abs sorted reversed int str bool list tuple dict set frozenset
isinstance ord repr any all divmod Exception ValueError TypeError KeyError IndexError LookupError
ZeroDivisionError ArithmeticError OverflowError RuntimeError NotImplementedError AttributeError
StopIteration""".split()
METHODS = """append clear copy count endswith extend find get index insert isalnum isalpha isdigit islower isspace
isupper items join keys ljust lower lstrip partition pop remove replace reverse rfind rjust rpartition rsplit
rstrip setdefault split splitlines startswith strip update upper values zfill bit_length""".split()
DUNDERS = ("__init__", "__eq__", "__repr__", "__str__", "__len__")
WALKED = ("zip", "enumerate", "reversed", "range")
CHANGES = ("append", "clear", "extend", "insert", "pop", "remove", "reverse", "setdefault", "update")
WALKERS = ("list", "tuple", "dict", "sorted", "sum", "any", "all", "enumerate", "zip", "min", "max")
KEYWORDS = {"sorted": ("key", "reverse"), "min": ("key", "default"), "max": ("key", "default"), "sum": ("start",),
            "enumerate": ("start",), "zip": ("strict",)}
BARRED_NAMES = """register mro elements open input version_info with_traceback add_note attrgetter breakpoint builtins
compile copyright credits delattr dir eval exec exit gc getattr globals hasattr help id importlib license locals
methodcaller os quit setattr super type vars sys chr print format format_map""".split()
BARRED_WORDS = """type typing typing_extensions enum Enum IntEnum StrEnum Flag IntFlag Generic Protocol ABC ABCMeta
namedtuple NamedTuple TypedDict TYPE_CHECKING abstractmethod""".split()
BARRED_PARTS = ("dataclass", "overload", "contextmanager")


def methods_of(tree):
    return [part.name for node in ast.walk(tree) if isinstance(node, ast.ClassDef)
            for part in node.body if isinstance(part, ast.FunctionDef)]


def faults(text, own=()):
    """The faults of a file's text; own are the methods that the package's classes have."""
    tree = ast.parse(text)
    parents = {}
    for node in ast.walk(tree):
        for child in ast.iter_child_nodes(node):
            parents[child] = node
    found = text_faults(text) + top_faults(tree)
    for node in ast.walk(tree):
        told = (statement_faults(node, parents) + expression_faults(node) + function_faults(node, tree)
                + class_faults(node) + name_faults(node) + call_faults(node, own) + walked_faults(node, parents)
                + change_faults(node) + error_faults(node))
        found.extend(f"{getattr(node, 'lineno', 0)}: {fault}" for fault in told)
    return found


def text_faults(text):
    found = []
    lines = text.split("\n")
    if len(lines) > 401:
        found.append("0: L10 file too long")
    for number, line in enumerate(lines, start=1):
        if len(line) > 120:
            found.append(f"{number}: L10 line too long")
        if re.search(r"[^ -~]", line):
            found.append(f"{number}: L14 sign")
        for word in re.findall(r"\w+", line):
            if word in BARRED_WORDS or any(part in word for part in BARRED_PARTS):
                found.append(f"{number}: L17 {word}")
    return found


def top_faults(tree):
    found = []
    bound = []
    for place, node in enumerate(tree.body):
        if isinstance(node, ast.Expr):
            if place > 0 or not isinstance(node.value, ast.Constant):
                found.append(f"{node.lineno}: L3 an expression at the top")
        elif isinstance(node, ast.ImportFrom):
            bound.extend(alias.asname or alias.name for alias in node.names)
            if node.level or not (node.module or "").startswith("wordrules."):
                found.append(f"{node.lineno}: L2 import")
            if any(alias.name == "*" or alias.asname for alias in node.names):
                found.append(f"{node.lineno}: L2 import")
        elif isinstance(node, (ast.FunctionDef, ast.ClassDef)):
            bound.append(node.name)
        elif isinstance(node, ast.Assign) and isinstance(node.targets[0], ast.Name):
            bound.append(node.targets[0].id)
            if not is_plain_value(node.value):
                found.append(f"{node.lineno}: L3 value")
        else:
            found.append(f"{node.lineno}: L3 statement")
    found.extend(f"0: L15 {name} bound twice" for name in set(bound) if bound.count(name) > 1)
    return found


def is_plain_value(node):
    if isinstance(node, (ast.List, ast.Tuple)):
        inner = node.elts
    elif isinstance(node, ast.Dict):
        inner = list(node.keys) + list(node.values)
    else:
        return isinstance(node, (ast.Constant, ast.Name)) or (
            isinstance(node, ast.UnaryOp) and isinstance(node.operand, ast.Constant))
    return all(is_plain_value(part) and not isinstance(part, (ast.List, ast.Dict)) for part in inner)


def statement_faults(node, parents):
    found = []
    if isinstance(node, ast.stmt) and not isinstance(node, STATEMENTS):
        found.append(f"L6 {type(node).__name__}")
    if isinstance(node, (ast.For, ast.While)) and node.orelse:
        found.append("L6 else behind a loop")
    if isinstance(node, ast.Try) and node.finalbody:
        found.append("L6 finally")
    if isinstance(node, ast.Assign):
        if len(node.targets) != 1 or isinstance(node.targets[0], (ast.Tuple, ast.List)):
            found.append("L6 one target")
    if isinstance(node, ast.Expr) and not isinstance(node.value, ast.Call):
        if not isinstance(parents[node], ast.Module):
            found.append("L6 an expression by itself")
    if isinstance(node, ast.ImportFrom) and not isinstance(parents[node], ast.Module):
        found.append("L2 import within")
    if isinstance(node, ast.ClassDef) and not isinstance(parents[node], ast.Module):
        found.append("L15 class within")
    return found


def expression_faults(node):
    found = []
    if isinstance(node, ast.expr) and not isinstance(node, EXPRESSIONS):
        found.append(f"L7 {type(node).__name__}")
    if isinstance(node, (ast.Div, ast.MatMult)):
        found.append("L7 operator")
    if isinstance(node, ast.BinOp) and isinstance(node.op, ast.Pow):
        if not isinstance(node.right, ast.Constant):
            found.append("L27 exponent")
    if isinstance(node, ast.Constant):
        if not (node.value is None or isinstance(node.value, (bool, int, str))):
            found.append("L7 value")
        if isinstance(node.value, str) and "%" in node.value:
            found.append("L27 percent sign in a text")
    if isinstance(node, ast.ListComp):
        if len(node.generators) != 1 or len(node.generators[0].ifs) > 1:
            found.append("L7 comprehension")
    if isinstance(node, ast.FormattedValue):
        if not isinstance(node.value, ast.Name) or node.format_spec is not None or node.conversion not in (-1, 114):
            found.append("L7 f-string")
    if isinstance(node, ast.Compare):
        sides = [node.left] + node.comparators
        for place, operator in enumerate(node.ops):
            plain = [side for side in sides[place:place + 2]
                     if isinstance(side, ast.Constant) and (side.value is None or isinstance(side.value, bool))]
            if isinstance(operator, (ast.Is, ast.IsNot)) and not plain:
                found.append("L20 is")
    return found


def function_faults(node, tree):
    if not isinstance(node, (ast.FunctionDef, ast.Lambda)):
        return []
    found = []
    taken = [top.name for top in tree.body if isinstance(top, ast.ClassDef)]
    for top in tree.body:
        if isinstance(top, ast.ImportFrom):
            taken.extend(alias.name for alias in top.names)
    given = node.args
    if given.vararg or given.kwarg or given.kwonlyargs or given.posonlyargs:
        found.append("L4 parameters")
    names = [parameter.arg for parameter in given.args]
    names += [inner.id for inner in ast.walk(node) if isinstance(inner, ast.Name) and isinstance(inner.ctx, ast.Store)]
    for name in names:
        if name in taken or name in dir(builtins):
            found.append(f"L15 {name}")
    if isinstance(node, ast.FunctionDef):
        if node.decorator_list:
            found.append("L4 decorator")
        if node.returns or any(parameter.annotation for parameter in given.args):
            found.append("L21 annotation")
        if node.end_lineno - node.lineno + 1 > 40:
            found.append("L10 function too long")
    return found


def class_faults(node):
    if not isinstance(node, ast.ClassDef):
        return []
    found = []
    if node.decorator_list or node.keywords or len(node.bases) > 1:
        found.append("L5 class")
    methods = [part.name for part in node.body if isinstance(part, ast.FunctionDef)]
    if any(not isinstance(part, (ast.FunctionDef, ast.Pass)) for part in node.body):
        found.append("L5 value in the class body")
    if len(set(methods)) != len(methods):
        found.append("L18 a method twice")
    return found


def name_faults(node):
    name = None
    if isinstance(node, ast.Name):
        name = node.id
        if name in dir(builtins) and name not in BUILTINS:
            return [f"L8 {name}"]
    elif isinstance(node, ast.arg):
        name = node.arg
    elif isinstance(node, ast.Attribute):
        name = node.attr
    elif isinstance(node, (ast.FunctionDef, ast.ClassDef)):
        name = node.name
    if name is None or name in DUNDERS:
        return []
    if name in BARRED_NAMES:
        return [f"L17 {name}"]
    if not re.fullmatch(r"[A-Za-z][A-Za-z0-9_]*", name):
        return [f"L12 {name}"]
    return []


def call_faults(node, own):
    if not isinstance(node, ast.Call):
        return []
    found = []
    if isinstance(node.func, ast.Attribute) and node.func.attr not in METHODS + list(DUNDERS) + list(own):
        found.append(f"L25 {node.func.attr}")
    if isinstance(node.func, ast.Name) and node.func.id in BUILTINS:
        for keyword in node.keywords:
            if keyword.arg not in KEYWORDS.get(node.func.id, ()):
                found.append(f"L22 {keyword.arg}")
    if any(isinstance(argument, ast.Starred) for argument in node.args):
        found.append("L7 star")
    return found


def walked_faults(node, parents):
    if not isinstance(node, ast.Call):
        return []
    by_name = isinstance(node.func, ast.Name) and node.func.id in WALKED
    by_method = isinstance(node.func, ast.Attribute) and node.func.attr in ("items", "keys", "values")
    by_set = isinstance(node.func, ast.Name) and node.func.id in ("set", "frozenset")
    above = parents[node]
    called = above.func.id if isinstance(above, ast.Call) and isinstance(above.func, ast.Name) else None
    if by_set:
        fits = called in ("sorted", "len") or isinstance(above, (ast.Compare, ast.BinOp))
        return [] if fits else ["L24 set"]
    if by_name or by_method:
        fits = called in WALKERS or isinstance(above, (ast.For, ast.comprehension))
        return [] if fits else ["L23 not walked on the spot"]
    return []


def change_faults(node):
    if not isinstance(node, ast.For):
        return []
    walked = {ast.unparse(inner) for inner in ast.walk(node.iter) if isinstance(inner, (ast.Name, ast.Subscript))}
    changed = set()
    for statement in node.body:
        for inner in ast.walk(statement):
            if isinstance(inner, ast.Call) and isinstance(inner.func, ast.Attribute) and inner.func.attr in CHANGES:
                changed.add(ast.unparse(inner.func.value))
            if isinstance(inner, ast.Subscript) and isinstance(inner.ctx, ast.Store):
                changed.add(ast.unparse(inner.value))
    return [f"L23 {name} changed while it is walked" for name in sorted(walked & changed)]


def error_faults(node):
    found = []
    if isinstance(node, ast.ExceptHandler):
        if node.type is None or any(isinstance(inner, ast.Name) and inner.id in ("Exception", "TypeError")
                                    for inner in ast.walk(node.type)):
            found.append("L19 except")
    if isinstance(node, ast.Raise) and not isinstance(node.exc, ast.Call):
        found.append("L19 raise")
    return found
