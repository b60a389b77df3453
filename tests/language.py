"""Reads the package's files and tells where they leave LANGUAGE.md, as far as single nodes show it.

Held: L1 to L8, L10, L12, L14 to L20, L22 to L25, L27, in part. The rest is left to the reader.
"""

import ast
import builtins
import re

OWN_NAMES = set("""
len range enumerate zip min max sum abs sorted reversed int str bool list tuple dict set frozenset isinstance ord
repr any all divmod Exception ValueError TypeError KeyError IndexError LookupError ZeroDivisionError
ArithmeticError OverflowError RuntimeError NotImplementedError AttributeError StopIteration
""".split())
METHODS = set("""
append clear copy count endswith extend find get index insert isalnum isalpha isdigit islower isspace isupper items
join keys ljust lower lstrip partition pop remove replace reverse rfind rjust rpartition rsplit rstrip setdefault
split splitlines startswith strip update upper values zfill bit_length
""".split())
BUILT_KINDS = (str, int, list, dict, set, frozenset, tuple, bytes)
FOREIGN = {name for kind in BUILT_KINDS for name in vars(kind) if not name.startswith("_")} - METHODS
UNDERSCORED = {"__init__", "__eq__", "__repr__", "__str__", "__len__"}
WORDS = re.compile(r"""\b(type|typing|typing_extensions|enum|Enum|IntEnum|StrEnum|Flag|IntFlag|Generic|Protocol|ABC
|ABCMeta|namedtuple|NamedTuple|TypedDict|TYPE_CHECKING|abstractmethod)\b|dataclass|overload|contextmanager""", re.X)
NOT_NAMES = set("""
register mro elements open input version_info with_traceback add_note attrgetter breakpoint builtins compile copyright
credits delattr dir eval exec exit gc getattr globals hasattr help id importlib license locals methodcaller os quit
setattr super type vars sys
""".split())
WALKED = {"zip", "enumerate", "reversed", "range", "items", "keys", "values"}
WALKERS = {"list", "tuple", "dict", "sorted", "sum", "any", "all", "enumerate", "zip"}
PLAIN_NAME = re.compile(r"[A-Za-z][A-Za-z0-9_]*$")
STATEMENTS = (
    ast.Assign, ast.AugAssign, ast.If, ast.While, ast.For, ast.Return, ast.Break, ast.Continue, ast.Pass, ast.Raise,
    ast.Try, ast.Expr, ast.FunctionDef, ast.ClassDef, ast.ImportFrom,
)
EXPRESSIONS = (
    ast.Constant, ast.List, ast.Tuple, ast.Dict, ast.Set, ast.BinOp, ast.UnaryOp, ast.BoolOp, ast.Compare, ast.IfExp,
    ast.Call, ast.Attribute, ast.Subscript, ast.Slice, ast.ListComp, ast.JoinedStr, ast.FormattedValue, ast.Lambda,
    ast.Name,
)


def faults_of(source, package):
    """The list of (rule, line) in one file's text."""
    tree = ast.parse(source)
    faults = faults_of_text(source)
    if not docstring_alone(tree):
        faults.append(("L3", 1))
    faults.extend(faults_of_top(tree))
    faults.extend(faults_of_walks(tree))
    for node in ast.walk(tree):
        for rule in rules_broken(node, tree, package):
            faults.append((rule, getattr(node, "lineno", 0)))
    return faults


def faults_of_text(source):
    faults = []
    lines = source.split("\n")
    if len(lines) > 401:
        faults.append(("L10", len(lines)))
    for number, line in enumerate(lines, start=1):
        if len(line) > 120:
            faults.append(("L10", number))
        if not all(" " <= sign <= "~" for sign in line):
            faults.append(("L14", number))
        if WORDS.search(line):
            faults.append(("L17", number))
    return faults


def docstring_alone(tree):
    allowed = (ast.ImportFrom, ast.FunctionDef, ast.ClassDef, ast.Assign)
    body = tree.body[1:] if ast.get_docstring(tree) is not None else tree.body
    return all(isinstance(node, allowed) for node in body)


def faults_of_top(tree):
    """What is given at the top is plain, and no parameter or local is called like an import or a class."""
    taken = set(imports_of(tree)) | {node.name for node in tree.body if isinstance(node, ast.ClassDef)}
    faults = [("L3", node.lineno) for node in tree.body if isinstance(node, ast.Assign) and not is_plain(node.value)]
    for node in ast.walk(tree):
        bound = node.arg if isinstance(node, ast.arg) else None
        if isinstance(node, ast.Name) and isinstance(node.ctx, ast.Store):
            bound = node.id
        if bound in taken:
            faults.append(("L15", node.lineno))
    return faults


def faults_of_walks(tree):
    """What may only be walked on the spot, and sets that are kept."""
    faults = []
    allowed = walked_at_once(tree)
    for node in ast.walk(tree):
        if isinstance(node, ast.Call) and called(node) in WALKED and id(node) not in allowed:
            faults.append(("L23", node.lineno))
        if isinstance(node, (ast.Assign, ast.Return)) and is_set(node.value):
            faults.append(("L24", node.lineno))
    return faults


def called(node):
    return getattr(node.func, "id", None) or getattr(node.func, "attr", None)


def walked_at_once(tree):
    """The ids of the nodes that stand where rule L23 lets a walk stand."""
    places = []
    for node in ast.walk(tree):
        if isinstance(node, (ast.For, ast.comprehension)):
            places.append(node.iter)
        elif isinstance(node, ast.Call) and node.args:
            joins = isinstance(node.func, ast.Attribute) and node.func.attr == "join"
            if joins and isinstance(node.func.value, ast.Constant) or called(node) in WALKERS:
                places.append(node.args[0])
            elif called(node) in ("min", "max") and len(node.args) == 1:
                places.append(node.args[0])
    return {id(place) for place in places}


def is_set(value):
    return isinstance(value, ast.Set) or isinstance(value, ast.Call) and called(value) in ("set", "frozenset")


def is_plain(value):
    if isinstance(value, ast.Dict):
        return all(is_plain(part) for part in value.keys + value.values)
    if isinstance(value, (ast.List, ast.Tuple)):
        return all(is_plain(part) for part in value.elts)
    return isinstance(value, (ast.Constant, ast.Name))


def imports_of(tree):
    """For each name that is imported the module from which it comes."""
    return {alias.name: node.module for node in tree.body if isinstance(node, ast.ImportFrom) for alias in node.names}


def methods_and_values(tree):
    """The names of the methods of all classes of a file, and those of the values of its objects."""
    classes = [node for node in ast.walk(tree) if isinstance(node, ast.ClassDef)]
    methods = [part.name for node in classes for part in node.body if isinstance(part, ast.FunctionDef)]
    values = [part.attr for node in classes for part in ast.walk(node)
              if isinstance(part, ast.Attribute) and isinstance(part.ctx, ast.Store)]
    return (methods, values)


def modules_behind(name, drawn):
    """All modules that one draws from, in whatever many steps; drawn has those of one step."""
    met = set()
    ahead = list(drawn[name])
    while ahead:
        module = ahead.pop()
        if module not in met:
            met.add(module)
            ahead.extend(drawn.get(module, ()))
    return met


def rules_broken(node, tree, package):
    if isinstance(node, ast.stmt) and not isinstance(node, STATEMENTS):
        yield "L6"
    if isinstance(node, ast.expr) and not isinstance(node, EXPRESSIONS):
        yield "L7"
    yield from statement_rules(node, tree, package)
    yield from expression_rules(node)
    yield from name_rules(node)


def statement_rules(node, tree, package):
    if isinstance(node, ast.ImportFrom):
        if node.level or node not in tree.body or (node.module or "").split(".")[0] != package:
            yield "L2"
        if any(alias.name == "*" or alias.asname for alias in node.names):
            yield "L16"
    if isinstance(node, ast.FunctionDef):
        arguments = node.args
        if node.decorator_list or arguments.vararg or arguments.kwarg or arguments.kwonlyargs or arguments.posonlyargs:
            yield "L4"
        if node.end_lineno - node.lineno >= 40:
            yield "L10"
    if isinstance(node, ast.ClassDef):
        if node.decorator_list or node.keywords or len(node.bases) > 1 or node not in tree.body:
            yield "L5"
        if not all(isinstance(part, (ast.FunctionDef, ast.Pass)) for part in node.body):
            yield "L5"
    if isinstance(node, ast.Assign) and (len(node.targets) > 1 or not isinstance(
            node.targets[0], (ast.Name, ast.Attribute, ast.Subscript))):
        yield "L6"
    if isinstance(node, (ast.For, ast.While)) and node.orelse or isinstance(node, ast.Try) and node.finalbody:
        yield "L6"
    if isinstance(node, ast.ExceptHandler) and (
            node.type is None or names_within(node.type) & {"Exception", "TypeError"}):
        yield "L19"


def names_within(node):
    return {part.id for part in ast.walk(node) if isinstance(part, ast.Name)}


def expression_rules(node):
    if isinstance(node, ast.Constant) and isinstance(node.value, (float, complex, bytes)):
        yield "L7"
    if isinstance(node, ast.Constant) and isinstance(node.value, str) and "%" in node.value:
        yield "L27"
    if isinstance(node, (ast.BinOp, ast.AugAssign)) and isinstance(node.op, (ast.Div, ast.MatMult)):
        yield "L7"
    if isinstance(node, ast.BinOp) and isinstance(node.op, ast.Pow) and not isinstance(node.right, ast.Constant):
        yield "L27"
    if isinstance(node, ast.ListComp) and (len(node.generators) > 1 or len(node.generators[0].ifs) > 1):
        yield "L7"
    if isinstance(node, ast.Compare):
        for operator, right in zip(node.ops, node.comparators):
            if isinstance(operator, (ast.Is, ast.IsNot)) and not (
                    isinstance(right, ast.Constant) and right.value in (None, True, False)):
                yield "L20"


def name_rules(node):
    if isinstance(node, ast.Attribute):
        if node.attr in FOREIGN - {"add", "discard", "title"} or node.attr in ("format", "mro"):
            yield "L25"
        if not PLAIN_NAME.match(node.attr) and node.attr not in UNDERSCORED:
            yield "L12"
    if isinstance(node, ast.Name):
        if node.id in NOT_NAMES:
            yield "L17"
        elif hasattr(builtins, node.id) and (node.id not in OWN_NAMES or not isinstance(node.ctx, ast.Load)):
            yield "L8"
    bound = getattr(node, "name", None) or getattr(node, "arg", None) or getattr(node, "id", None)
    if isinstance(bound, str):
        if not PLAIN_NAME.match(bound) and bound not in UNDERSCORED:
            yield "L12"
        if isinstance(node, ast.arg) and hasattr(builtins, bound):
            yield "L15"
