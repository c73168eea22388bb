"""Looks through the package's files for what ../shared/LANGUAGE.md leaves out, as far as a reader of trees can see it.

`faults(path, text, classes)` tells a list of (rule, line) of one file, `classes` being what `classes_of(texts)` tells of
all files; `cycles(texts)` tells of files that draw from one another.
"""

import ast
import builtins
import re

PACKAGE = "ladderworth"
OWN_NAMES = set("""len range enumerate zip min max sum abs sorted reversed int str bool list tuple dict set frozenset
isinstance ord repr any all divmod Exception ValueError TypeError KeyError IndexError LookupError ZeroDivisionError
ArithmeticError OverflowError RuntimeError NotImplementedError AttributeError StopIteration""".split())
METHODS = set("""append clear copy count endswith extend find get index insert isalnum isalpha isdigit islower isspace
isupper items join keys ljust lower lstrip partition pop remove replace reverse rfind rjust rpartition rsplit rstrip
setdefault split splitlines startswith strip update upper values zfill bit_length""".split())
FORBIDDEN_NAMES = set("""register mro elements open input version_info with_traceback add_note attrgetter breakpoint
builtins compile copyright credits delattr dir eval exec exit gc getattr globals hasattr help id importlib license
locals methodcaller os quit setattr super type vars sys format format_map""".split())
FORBIDDEN_WORDS = re.compile(r"""\b(type|typing|typing_extensions|enum|Enum|IntEnum|StrEnum|Flag|IntFlag|Generic|Protocol
|ABC|ABCMeta|namedtuple|NamedTuple|TypedDict|TYPE_CHECKING|abstractmethod)\b|dataclass|overload|contextmanager""",
                             re.VERBOSE)
DOUBLE = {"__init__", "__eq__", "__repr__", "__str__", "__len__"}
KEYWORDS = {"sorted": {"key", "reverse"}, "min": {"key", "default"}, "max": {"key", "default"}, "sum": {"start"},
            "enumerate": {"start"}, "zip": {"strict"}}
STATEMENTS = (ast.Assign, ast.AugAssign, ast.If, ast.While, ast.For, ast.Return, ast.Break, ast.Continue, ast.Pass,
              ast.Raise, ast.Try, ast.Expr, ast.FunctionDef, ast.ClassDef, ast.ImportFrom)
EXPRESSIONS = (ast.BoolOp, ast.BinOp, ast.UnaryOp, ast.Lambda, ast.IfExp, ast.Dict, ast.Set, ast.ListComp, ast.Compare,
               ast.Call, ast.FormattedValue, ast.JoinedStr, ast.Constant, ast.Attribute, ast.Subscript, ast.Name,
               ast.List, ast.Tuple, ast.Slice)
WALKERS = {"zip", "enumerate", "reversed", "range"}
WALKING_METHODS = {"items", "keys", "values"}
TAKERS = {"list", "tuple", "dict", "sorted", "sum", "any", "all", "enumerate", "zip"}
READS = {"get", "items", "keys", "values", "index", "count", "copy"}
CHANGES = {"append", "clear", "extend", "insert", "pop", "remove", "reverse", "setdefault", "update"}
TAKEN_NAMES = {name for kind in (str, int, list, dict, set, frozenset, bytes) for name in dir(kind)}
FREE_VALUES = {"count", "index", "title", "find", "get", "join", "lower", "upper", "split", "strip", "copy", "add"}
ERRORS = {name for name in OWN_NAMES if name.endswith(("Error", "Exception", "Iteration"))}


def faults(path, text, classes=None):
    classes = classes or classes_of({path: text})
    tree = ast.parse(text)
    found = signs(text) + top(path, tree) + misplaced(tree) + changed_walks(tree) + lambdas(tree)
    found += class_uses(tree, classes) + class_bodies(tree) + kept_tops(tree)
    own = own_methods(tree) | classes["methods"]
    taken = {name.name for node in tree.body if isinstance(node, ast.ImportFrom) for name in node.names}
    taken |= {node.name for node in tree.body if isinstance(node, ast.ClassDef)}
    for node in ast.walk(tree):
        for rule in rules_at(node, own, taken):
            found.append((rule, getattr(node, "lineno", 0)))
    return found


def signs(text):
    found = []
    rows = text.split("\n")
    if len(rows) > 401:
        found.append(("L10", 401))
    for at, row in enumerate(rows, start=1):
        if len(row) > 120:
            found.append(("L10", at))
        if not all(" " <= sign <= "~" for sign in row):
            found.append(("L14", at))
        if FORBIDDEN_WORDS.search(row):
            found.append(("L17", at))
    return found


def top(path, tree):
    found = []
    bound = []
    for at, node in enumerate(tree.body):
        if isinstance(node, ast.Expr) and at == 0 and isinstance(node.value, ast.Constant):
            continue
        if isinstance(node, ast.ImportFrom):
            bound += [name.asname or name.name for name in node.names]
        elif isinstance(node, (ast.FunctionDef, ast.ClassDef)):
            bound.append(node.name)
        elif isinstance(node, ast.Assign) and isinstance(node.targets[0], ast.Name):
            bound.append(node.targets[0].id)
            if not is_plain(node.value, False):
                found.append(("L3", node.lineno))
        else:
            found.append(("L3", node.lineno))
    found += [("L15", 0) for name in set(bound) if bound.count(name) > 1]
    if not re.fullmatch(r"(__init__|[a-z][a-z0-9_]*)\.py", path) or path[:-3] in dir(builtins):
        found.append(("L14", 0))
    return found


def is_plain(node, within):
    if isinstance(node, (ast.List, ast.Dict)) and within:
        return False
    if isinstance(node, (ast.List, ast.Tuple)):
        return all(is_plain(part, True) for part in node.elts)
    if isinstance(node, ast.Dict):
        return all(is_plain(part, True) for part in node.keys + node.values)
    if isinstance(node, ast.UnaryOp):
        return is_plain(node.operand, True)
    return isinstance(node, (ast.Constant, ast.Name))


def kept_tops(tree):
    """Lists and dicts of a file's top that are not only read where they stand (L15)."""
    parents = {part: node for node in ast.walk(tree) for part in ast.iter_child_nodes(node)}
    tops = {node.targets[0].id for node in tree.body if isinstance(node, ast.Assign) and is_kept(node)}
    return [("L15", node.lineno) for node in ast.walk(tree) if isinstance(node, ast.Name) and node.id in tops
            and isinstance(node.ctx, ast.Load) and not is_read(node, parents[node])]


def is_kept(node):
    return isinstance(node.targets[0], ast.Name) and isinstance(node.value, (ast.List, ast.Dict))


def is_read(node, parent):
    if isinstance(parent, ast.Subscript):
        return parent.value is node and isinstance(parent.ctx, ast.Load)
    if isinstance(parent, ast.Attribute):
        return parent.attr in READS
    return isinstance(parent, (ast.Compare, ast.For, ast.comprehension)) or called(parent) in TAKERS | {"len", "min", "max"}


def misplaced(tree):
    """Walks that are kept (L23), and sets that are kept or walked (L24)."""
    parents = {part: node for node in ast.walk(tree) for part in ast.iter_child_nodes(node)}
    found = []
    for node in ast.walk(tree):
        if is_walk(node) and not is_walked(node, parents[node]):
            found.append(("L23", node.lineno))
        if is_set(node) and not is_asked(node, parents):
            found.append(("L24", node.lineno))
    return found


def called(node):
    return node.func.id if isinstance(node, ast.Call) and isinstance(node.func, ast.Name) else ""


def is_walk(node):
    if isinstance(node, ast.Call) and isinstance(node.func, ast.Attribute):
        return node.func.attr in WALKING_METHODS
    return called(node) in WALKERS


def is_walked(node, parent):
    if isinstance(parent, (ast.For, ast.comprehension)):
        return parent.iter is node
    if isinstance(parent, ast.Call) and isinstance(parent.func, ast.Attribute):
        return parent.func.attr == "join" and isinstance(parent.func.value, ast.Constant)
    if called(parent) in ("min", "max"):
        return len(parent.args) == 1
    return called(parent) in TAKERS and parent.args[0] is node


def is_set(node):
    return called(node) in ("set", "frozenset") or isinstance(node, ast.Set)


def is_asked(node, parents):
    parent = parents[node]
    while isinstance(parent, ast.BinOp) and isinstance(parent.op, (ast.Sub, ast.BitAnd, ast.BitOr, ast.BitXor)):
        node = parent
        parent = parents[node]
    if isinstance(parent, ast.Compare):
        return all(isinstance(sort, (ast.In, ast.NotIn, ast.Eq, ast.NotEq)) for sort in parent.ops)
    return called(parent) in ("sorted", "len") and not parent.keywords


def changed_walks(tree):
    """Loops that change what they walk (L23)."""
    found = []
    for loop in ast.walk(tree):
        if isinstance(loop, ast.For):
            walked = walked_by(loop.iter)
            for node in [node for row in loop.body for node in ast.walk(row)]:
                if changed_by(node) in walked:
                    found.append(("L23", node.lineno))
    return found


def walked_by(node):
    if isinstance(node, ast.Call) and isinstance(node.func, ast.Attribute) and node.func.attr in WALKING_METHODS:
        return [ast.unparse(node.func.value)]
    if called(node) in WALKERS:
        return [name for part in node.args for name in walked_by(part)]
    return [ast.unparse(node)]


def changed_by(node):
    if isinstance(node, ast.Call) and isinstance(node.func, ast.Attribute) and node.func.attr in CHANGES:
        return ast.unparse(node.func.value)
    if isinstance(node, ast.Subscript) and isinstance(node.ctx, ast.Store):
        return ast.unparse(node.value)
    if isinstance(node, ast.AugAssign):
        return ast.unparse(node.target)
    return ""


def lambdas(tree):
    """Two with the same parameters on one line (L13)."""
    seen = [(node.lineno, ast.unparse(node.args)) for node in ast.walk(tree) if isinstance(node, ast.Lambda)]
    return [("L13", line) for line, args in sorted(set(seen)) if seen.count((line, args)) > 1]


def classes_of(texts):
    found = {"classes": set(ERRORS), "methods": set(), "values": set()}
    for text in texts.values():
        for node in ast.walk(ast.parse(text)):
            if isinstance(node, ast.ClassDef):
                found["classes"].add(node.name)
                found["methods"] |= {part.name for part in node.body if isinstance(part, ast.FunctionDef)}
            if isinstance(node, ast.Attribute) and isinstance(node.ctx, ast.Store):
                found["values"].add(node.attr)
    return found


def class_uses(tree, classes):
    """Classes that are neither called nor named where they may be, and values given otherwise than by a local (L18)."""
    parents = {part: node for node in ast.walk(tree) for part in ast.iter_child_nodes(node)}
    bound = {name for node in tree.body for name in top_names(node)}
    found = []
    for node in ast.walk(tree):
        if isinstance(node, ast.Name) and node.id in classes["classes"] and not is_class_use(node, parents):
            found.append(("L18", node.lineno))
        if isinstance(node, ast.Attribute) and isinstance(node.ctx, ast.Store):
            if not isinstance(node.value, ast.Name) or node.value.id in bound | classes["classes"]:
                found.append(("L18", node.lineno))
    return found


def is_class_use(node, parents):
    parent = parents[node]
    if isinstance(parent, ast.Tuple):
        node = parent
        parent = parents[node]
    if isinstance(parent, ast.Call):
        return parent.func is node or called(parent) == "isinstance" and parent.args[1] is node
    if isinstance(parent, ast.Attribute):
        return parent.attr == "__init__" and isinstance(parents[parent], ast.Call)
    return isinstance(parent, (ast.ClassDef, ast.ExceptHandler, ast.Raise))


def top_names(node):
    if isinstance(node, ast.ImportFrom):
        return [name.name for name in node.names]
    if isinstance(node, ast.Assign):
        return [target.id for target in node.targets if isinstance(target, ast.Name)]
    return [node.name] if isinstance(node, (ast.FunctionDef, ast.ClassDef)) else []


def class_bodies(tree):
    """Methods that stand twice (L18), names that are not free (L26), and methods with two underscores (L28)."""
    found = []
    for node in ast.walk(tree):
        if isinstance(node, ast.ClassDef):
            names = [part.name for part in node.body if isinstance(part, ast.FunctionDef)]
            found += [("L18", node.lineno) for name in set(names) if names.count(name) > 1]
            found += [("L26", node.lineno) for name in names if name in TAKEN_NAMES - METHODS - DOUBLE - {"add", "discard"}]
            found += [("L28", node.lineno) for name in names if name in DOUBLE - {"__init__"}]
        if isinstance(node, ast.Attribute) and isinstance(node.ctx, ast.Store):
            if node.attr in (TAKEN_NAMES | {"args", "sort"}) - FREE_VALUES:
                found.append(("L26", node.lineno))
        if isinstance(node, ast.FunctionDef) and node.name == "__init__":
            found += [("L28", part.lineno) for part in ast.walk(node) if isinstance(part, ast.Return)]
    return found


def own_methods(tree):
    return {node.name for node in ast.walk(tree) if isinstance(node, ast.FunctionDef)}


def rules_at(node, own, taken):
    rules = []
    if isinstance(node, ast.stmt):
        rules += statement(node)
    if isinstance(node, ast.expr):
        rules += expression(node, own)
    for name in names_at(node):
        if name in FORBIDDEN_NAMES:
            rules.append("L17")
        if name.startswith("_") and name not in DOUBLE:
            rules.append("L12")
    for name in bound_at(node):
        if name in taken or name in dir(builtins):
            rules.append("L15")
    return rules


def names_at(node):
    if isinstance(node, ast.Name):
        return [node.id]
    if isinstance(node, ast.Attribute):
        return [node.attr]
    if isinstance(node, (ast.FunctionDef, ast.ClassDef)):
        return [node.name]
    if isinstance(node, ast.arg):
        return [node.arg]
    return []


def bound_at(node):
    if isinstance(node, ast.Name) and isinstance(node.ctx, ast.Store):
        return [node.id]
    return [node.arg] if isinstance(node, ast.arg) else []


def statement(node):
    rules = []
    if not isinstance(node, STATEMENTS):
        rules.append("L6")
    if isinstance(node, ast.Expr) and not isinstance(node.value, ast.Call):
        if not (isinstance(node.value, ast.Constant) and node.lineno == 1):
            rules.append("L6")
    if isinstance(node, (ast.For, ast.While)) and node.orelse or isinstance(node, ast.Try) and node.finalbody:
        rules.append("L6")
    if isinstance(node, ast.Assign) and (len(node.targets) > 1 or isinstance(node.targets[0], (ast.Tuple, ast.List))):
        rules.append("L6")
    if isinstance(node, ast.Import):
        rules.append("L2")
    if isinstance(node, ast.ImportFrom):
        rules += import_row(node)
    if isinstance(node, ast.FunctionDef):
        rules += function(node)
    if isinstance(node, ast.ClassDef) and (len(node.bases) > 1 or node.keywords or node.decorator_list or not all(
            isinstance(part, (ast.FunctionDef, ast.Pass)) for part in node.body)):
        rules.append("L5")
    if isinstance(node, ast.Try) and any(row.type is None or ast.unparse(row.type) in ("Exception", "TypeError")
                                         for row in node.handlers):
        rules.append("L19")
    return rules


def import_row(node):
    rules = []
    if node.level or not (node.module or "").startswith(PACKAGE + ".") or node.col_offset:
        rules.append("L2")
    if any(name.name == "*" or name.asname for name in node.names):
        rules.append("L2")
    return rules


def function(node):
    rules = []
    args = node.args
    if args.vararg or args.kwarg or args.kwonlyargs or args.posonlyargs or node.decorator_list:
        rules.append("L4")
    if not all(isinstance(value, ast.Constant) for value in args.defaults):
        rules.append("L4")
    if node.end_lineno - node.lineno + 1 > 40:
        rules.append("L10")
    if node.returns or any(arg.annotation for arg in args.args):
        rules.append("L21")
    return rules


def expression(node, own):
    rules = []
    if not isinstance(node, EXPRESSIONS):
        rules.append("L7")
    if isinstance(node, ast.Constant):
        rules += constant(node)
    if isinstance(node, ast.BinOp) and isinstance(node.op, (ast.Div, ast.MatMult)):
        rules.append("L7")
    if isinstance(node, ast.BinOp) and isinstance(node.op, ast.Pow) and not isinstance(node.right, ast.Constant):
        rules.append("L27")
    if isinstance(node, ast.Name) and node.id in dir(builtins) and node.id not in OWN_NAMES:
        rules.append("L8")
    if isinstance(node, ast.FormattedValue) and not isinstance(node.value, ast.Name):
        rules.append("L7")
    if isinstance(node, ast.ListComp) and (len(node.generators) > 1 or len(node.generators[0].ifs) > 1):
        rules.append("L7")
    if isinstance(node, ast.Compare):
        for sort, right in zip(node.ops, node.comparators):
            if isinstance(sort, (ast.Is, ast.IsNot)) and not (
                    isinstance(right, ast.Constant) and right.value in (None, True, False)):
                rules.append("L20")
    if isinstance(node, ast.Set) and len([part for part in node.elts if is_number(part)]) > 2:
        rules.append("L13")
    if isinstance(node, ast.Call):
        rules += call(node, own)
    return rules


def is_number(node):
    return isinstance(node, ast.Constant) and isinstance(node.value, int)


def constant(node):
    if not isinstance(node.value, (int, str)) and node.value is not None:
        return ["L7"]
    return ["L27"] if isinstance(node.value, str) and "%" in node.value else []


def call(node, own):
    rules = []
    if called(node) in OWN_NAMES and any(word.arg not in KEYWORDS.get(called(node), ()) for word in node.keywords):
        rules.append("L22")
    if isinstance(node.func, ast.Attribute) and node.func.attr not in METHODS | own | DOUBLE:
        rules.append("L25")
    return rules


def cycles(texts):
    drawn = {path: draws(text) for path, text in texts.items()}
    found = []
    for path in drawn:
        reached = set()
        ahead = list(drawn[path])
        while ahead:
            one = ahead.pop()
            if one not in reached:
                reached.add(one)
                ahead += drawn.get(one, [])
        if path in reached:
            found.append(path)
    return sorted(found)


def draws(text):
    return [node.module[len(PACKAGE) + 1:] + ".py" for node in ast.parse(text).body if isinstance(node, ast.ImportFrom)]


def defined(text):
    names = set()
    for node in ast.parse(text).body:
        if isinstance(node, (ast.FunctionDef, ast.ClassDef)):
            names.add(node.name)
        if isinstance(node, ast.Assign):
            names.add(node.targets[0].id)
    return names
