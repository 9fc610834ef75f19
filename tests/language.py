"""Looks over a file of the package by the rules of LANGUAGE.md that can be seen in what is written."""

import ast
import builtins
import re
import warnings

OWN_NAMES = set("""len range enumerate zip min max sum abs sorted reversed int str bool bytes list tuple dict set
frozenset isinstance ord repr any all divmod Exception ValueError TypeError KeyError IndexError LookupError
ZeroDivisionError ArithmeticError OverflowError RuntimeError NotImplementedError AttributeError
StopIteration""".split())
METHODS = set("""append clear copy count endswith extend find get index insert isalnum isalpha isdigit islower isspace
isupper items join keys ljust lower lstrip partition pop remove replace reverse rfind rjust rpartition rsplit rstrip
setdefault split splitlines startswith strip update upper values zfill bit_length title capitalize swapcase casefold
center expandtabs removeprefix removesuffix rindex isascii isdecimal isnumeric istitle isidentifier isprintable
add discard sort""".split())
UNUSED = set("""register mro elements open input version_info with_traceback add_note attrgetter breakpoint builtins
compile copyright credits delattr dir eval exec exit gc getattr globals hasattr help id importlib license locals
methodcaller os quit setattr super type vars sys chr print""".split())
WORDS = re.compile(r"\b(type|typing|typing_extensions|enum|Enum|IntEnum|StrEnum|Flag|IntFlag|Generic|Protocol|ABC"
                   r"|ABCMeta|namedtuple|NamedTuple|TypedDict|TYPE_CHECKING|abstractmethod)\b"
                   r"|dataclass|overload|contextmanager")
OUT = (ast.With, ast.Match, ast.Global, ast.Nonlocal, ast.Yield, ast.YieldFrom, ast.AsyncFunctionDef, ast.AsyncFor,
       ast.AsyncWith, ast.Await, ast.GeneratorExp, ast.NamedExpr, ast.Div, ast.MatMult, ast.Import, ast.TryStar)
WALKED = ["zip", "enumerate", "reversed", "range", "items", "keys", "values"]
METHODS_WITH_UNDERSCORES = ["__init__", "__eq__", "__repr__", "__str__", "__len__"]


def faults(source, package):
    """A list of texts, one for each row that keeps to a rule not; none where all is well."""
    found = faults_of_signs(source)
    with warnings.catch_warnings():
        warnings.simplefilter("error")
        tree = ast.parse(source)
        compile(source, "file", "exec")
    found += faults_of_top(tree, package)
    for node in ast.walk(tree):
        found += [f"{words} in row {getattr(node, 'lineno', 0)}" for words in faults_of_node(node)]
    return found + faults_of_names(tree)


def faults_of_signs(source):
    found = []
    rows = source.split("\n")
    if len(rows) > 401:
        found.append("L10 file too long")
    for at, row in enumerate(rows, 1):
        if len(row) > 120:
            found.append(f"L10 row {at} too long")
        if not all(" " <= sign <= "~" for sign in row):
            found.append(f"L14 sign in row {at}")
        if WORDS.search(row):
            found.append(f"L17 word in row {at}")
    return found


def faults_of_top(tree, package):
    found, bound = [], []
    for at, node in enumerate(tree.body):
        if isinstance(node, ast.ImportFrom):
            if node.level or not node.module.startswith(package + "."):
                found.append(f"L2 import in row {node.lineno}")
            bound += [each.asname or each.name for each in node.names]
        elif isinstance(node, (ast.FunctionDef, ast.ClassDef)):
            bound.append(node.name)
        elif isinstance(node, ast.Assign) and len(node.targets) == 1 and isinstance(node.targets[0], ast.Name):
            bound.append(node.targets[0].id)
        elif not (at == 0 and isinstance(node, ast.Expr) and isinstance(node.value, ast.Constant)):
            found.append(f"L3 row {node.lineno}")
    if len(bound) != len(set(bound)):
        found.append("L15 a name bound twice")
    inner = [node for top in tree.body for node in ast.walk(top) if node is not top]
    if any(isinstance(node, (ast.ImportFrom, ast.ClassDef)) for node in inner):
        found.append("L2 L15 an import or a class not at the top")
    return found


def faults_of_node(node):
    found = []
    if isinstance(node, OUT):
        found.append(f"L6 L7 {node.__class__.__name__}")
    if isinstance(node, ast.FunctionDef):
        found += faults_of_def(node)
    if isinstance(node, ast.ClassDef):
        rows = [row for row in node.body if not isinstance(row, (ast.FunctionDef, ast.Pass))]
        if len(node.bases) > 1 or node.keywords or node.decorator_list or rows[1:]:
            found.append("L5 class")
        if rows and not (isinstance(rows[0], ast.Expr) and isinstance(rows[0].value, ast.Constant)):
            found.append("L5 class body")
    if isinstance(node, (ast.For, ast.While)) and node.orelse:
        found.append("L6 else behind a loop")
    if isinstance(node, ast.Constant):
        found += faults_of_constant(node.value)
    if isinstance(node, ast.BinOp) and isinstance(node.op, ast.Pow):
        if not (isinstance(node.right, ast.Constant) and node.right.value in range(65)):
            found.append("L27 power")
    if isinstance(node, ast.Compare):
        beside = [side for side in [node.left] + node.comparators
                  if isinstance(side, ast.Constant) and any(side.value is each for each in (None, True, False))]
        if any(isinstance(op, (ast.Is, ast.IsNot)) for op in node.ops) and not beside:
            found.append("L20 is")
    if isinstance(node, ast.Call) and isinstance(node.func, ast.Attribute) and node.func.attr not in METHODS:
        found.append(f"L25 method {node.func.attr}")
    if isinstance(node, (ast.Assign, ast.Return)) and isinstance(node.value, ast.Call):
        if called(node.value) in WALKED:
            found.append(f"L23 {called(node.value)} not walked at once")
    return found


def called(node):
    return getattr(node.func, "attr", None) or getattr(node.func, "id", None)


def values_given(source):
    """The values that classes of the file give their objects."""
    return {node.attr for node in ast.walk(ast.parse(source))
            if isinstance(node, ast.Attribute) and isinstance(node.ctx, ast.Store)}


def values_asked(source):
    """The values of objects that are asked in the file."""
    tree = ast.parse(source)
    methods = {node.func for node in ast.walk(tree) if isinstance(node, ast.Call)}
    return {node.attr for node in ast.walk(tree) if isinstance(node, ast.Attribute) and node not in methods}


def faults_of_def(node):
    found = []
    if node.end_lineno - node.lineno >= 40:
        found.append("L10 def too long")
    if node.decorator_list or node.args.vararg or node.args.kwarg or node.args.posonlyargs:
        found.append("L4 def")
    return found


def faults_of_constant(value):
    if isinstance(value, (float, complex)):
        return ["L7 float"]
    if isinstance(value, str) and "%" in value:
        return ["L27 percent sign"]
    return []


def faults_of_names(tree):
    found = []
    top = {node.name for node in tree.body if isinstance(node, ast.ClassDef)}
    top |= {each.asname or each.name for node in tree.body if isinstance(node, ast.ImportFrom) for each in node.names}
    top |= set(vars(builtins))
    known = {node.id for node in ast.walk(tree) if isinstance(node, ast.Name) and isinstance(node.ctx, ast.Store)}
    known |= {node.arg for node in ast.walk(tree) if isinstance(node, ast.arg)}
    known |= {node.name for node in ast.walk(tree) if isinstance(node, (ast.FunctionDef, ast.ClassDef))}
    for name in sorted(known):
        plain = re.fullmatch(r"[A-Za-z][A-Za-z0-9_]*", name) or name in METHODS_WITH_UNDERSCORES
        if not plain or name in UNUSED:
            found.append(f"L12 L17 name {name}")
    given = {node.id for node in ast.walk(tree) if isinstance(node, ast.Name) and isinstance(node.ctx, ast.Store)}
    given |= {node.arg for node in ast.walk(tree) if isinstance(node, ast.arg)}
    found += [f"L15 name {name}" for name in sorted(given & top)]
    for node in ast.walk(tree):
        if isinstance(node, ast.Name) and node.id not in known | top:
            found.append(f"L8 unknown name {node.id}")
        if isinstance(node, ast.Name) and node.id in set(vars(builtins)) - OWN_NAMES - known:
            found.append(f"L8 name {node.id}")
    return found
