"""Looks whether the package's files keep to the part of Python that the project allows.

`faults(sources)` takes a dict of file names and texts and gives a list of triples of
rule, file name and line. It sees what can be seen in the form of the code alone.
"""

import ast
import builtins
import io
import re
import tokenize

PACKAGE = "sideloom"

ERRORS = """Exception ValueError TypeError KeyError IndexError LookupError ZeroDivisionError ArithmeticError
OverflowError RuntimeError NotImplementedError AttributeError StopIteration""".split()
KINDS = "int str bool list tuple dict set frozenset".split()
CALLED = """len range enumerate zip min max sum abs sorted reversed isinstance ord repr any all divmod""".split()
OWN_NAMES = ERRORS + KINDS + CALLED
ALL_BUILTINS = dir(builtins)

METHODS = """append clear copy count endswith extend find get index insert isalnum isalpha isdigit islower isspace
isupper items join keys ljust lower lstrip partition pop remove replace reverse rfind rjust rpartition rsplit rstrip
setdefault split splitlines startswith strip update upper values zfill bit_length""".split()
CHANGING = "append clear extend insert pop remove reverse setdefault update".split()
DUNDER_METHODS = "__init__ __eq__ __repr__ __str__ __len__".split()
NO_VALUES = """items keys values pop update append clear extend insert remove reverse setdefault sort args encode
format""".split()

NEVER = """register mro elements open input version_info with_traceback add_note format format_map""".split()
NO_NAMES = """attrgetter breakpoint builtins compile copyright credits delattr dir eval exec exit gc getattr globals
hasattr help id importlib license locals methodcaller os quit setattr super type vars sys""".split()
NO_WORDS = """type typing typing_extensions enum Enum IntEnum StrEnum Flag IntFlag Generic Protocol ABC ABCMeta
namedtuple NamedTuple TypedDict TYPE_CHECKING abstractmethod""".split()
NO_PARTS = ("dataclass", "overload", "contextmanager")
NO_FILES = "test tests testing site conftest sitecustomize usercustomize".split()

STATEMENTS = (
    ast.FunctionDef, ast.ClassDef, ast.Return, ast.Assign, ast.AugAssign, ast.For, ast.While, ast.If, ast.Raise,
    ast.Try, ast.ImportFrom, ast.Expr, ast.Pass, ast.Break, ast.Continue,
)
EXPRESSIONS = (
    ast.BoolOp, ast.BinOp, ast.UnaryOp, ast.Lambda, ast.IfExp, ast.Dict, ast.Set, ast.ListComp, ast.Compare, ast.Call,
    ast.FormattedValue, ast.JoinedStr, ast.Constant, ast.Attribute, ast.Subscript, ast.Name, ast.List, ast.Tuple,
    ast.Slice,
)
LOOPS = (ast.For, ast.While)
KEYWORDS = {"sorted": ("key", "reverse"), "min": ("key", "default"), "max": ("key", "default"), "sum": ("start",),
            "enumerate": ("start",), "zip": ("strict",)}
WALKERS = ("zip", "enumerate", "reversed", "range")
WALKED_BY = "list tuple dict sorted sum any all enumerate zip min max".split()


class File:
    """One file's text and tree, with each node's parent and what stands at the top."""

    def __init__(self, name, text):
        self.name = name
        self.text = text
        self.tree = ast.parse(text)
        self.nodes = list(ast.walk(self.tree))
        self.parents = {}
        for node in self.nodes:
            for child in ast.iter_child_nodes(node):
                self.parents[child] = node
        self.defs = [n for n in self.tree.body if isinstance(n, (ast.FunctionDef, ast.ClassDef))]
        self.values = [n for n in self.tree.body if isinstance(n, ast.Assign)]
        self.imports = [n for n in self.tree.body if isinstance(n, ast.ImportFrom)]

    def parent(self, node):
        return self.parents.get(node)

    def value_names(self):
        return [t.id for node in self.values for t in node.targets if isinstance(t, ast.Name)]

    def defined(self):
        return [node.name for node in self.defs] + self.value_names()

    def imported(self):
        return [alias.asname or alias.name for node in self.imports for alias in node.names]

    def kept_lists(self):
        return [t.id for node in self.values if isinstance(node.value, (ast.List, ast.Dict))
                for t in node.targets if isinstance(t, ast.Name)]

    def is_docstring(self, node):
        above = self.parent(node)
        return (isinstance(node.value, ast.Constant) and isinstance(node.value.value, str)
                and isinstance(above, (ast.Module, ast.ClassDef, ast.FunctionDef)) and above.body[0] is node)


def is_call_of(node, names):
    return isinstance(node, ast.Call) and isinstance(node.func, ast.Name) and node.func.id in names


def text_faults(file):
    stem = file.name.rsplit(".", 1)[0]
    plain = stem == "__init__" or re.fullmatch(r"[a-z][a-z0-9_]*", stem)
    if not file.name.endswith(".py") or not plain:
        yield "L1", 1
    if stem in NO_FILES + NO_WORDS + ALL_BUILTINS or stem.startswith("test_"):
        yield "L14", 1
    rows = file.text.split("\n")
    if len(file.text.splitlines()) > 400:
        yield "L10", 401
    for number, row in enumerate(rows, 1):
        if len(row) > 120 or "\t" in row:
            yield "L10", number
        if not re.fullmatch(r"[ -~\t]*", row):
            yield "L14", number
        if any(re.search(rf"\b{word}\b", row) for word in NO_WORDS) or any(part in row for part in NO_PARTS):
            yield "L17", number


def token_faults(file):
    middle = getattr(tokenize, "FSTRING_MIDDLE", None)
    start = getattr(tokenize, "FSTRING_START", None)
    for token in tokenize.generate_tokens(io.StringIO(file.text).readline):
        if token.type in (tokenize.STRING, middle):
            for sign in re.findall(r"\\(.|\n)", token.string):
                if sign not in "nt\\'\"":
                    yield "L27", token.start[0]
        if token.type in (tokenize.STRING, start) and re.match(r"[A-Za-z]*", token.string).group() not in ("", "f"):
            yield "L7", token.start[0]


def statement_faults(file, node):
    if isinstance(node, ast.stmt) and not isinstance(node, STATEMENTS):
        yield "L2" if isinstance(node, ast.Import) else "L6"
    if isinstance(node, ast.Expr) and not isinstance(node.value, ast.Call) and not file.is_docstring(node):
        yield "L6"
    if isinstance(node, LOOPS) and node.orelse:
        yield "L6"
    if isinstance(node, ast.Assign) and len(node.targets) != 1:
        yield "L6"
    if isinstance(node, ast.Try) and node.finalbody:
        yield "L6"
    if isinstance(node, ast.AugAssign) and isinstance(node.op, (ast.Div, ast.MatMult)):
        yield "L7"
    if isinstance(node, ast.ExceptHandler):
        caught = node.type.elts if isinstance(node.type, ast.Tuple) else [node.type]
        if not all(isinstance(kind, ast.Name) and kind.id not in ("Exception", "TypeError") for kind in caught):
            yield "L19"
    if isinstance(node, ast.Raise):
        if not isinstance(node.exc, ast.Call) or not isinstance(node.exc.func, ast.Name):
            yield "L19"


def expression_faults(file, node):
    if isinstance(node, ast.expr) and not isinstance(node, EXPRESSIONS):
        yield "L7"
    if isinstance(node, ast.BinOp) and isinstance(node.op, (ast.Div, ast.MatMult)):
        yield "L7"
    if isinstance(node, ast.BinOp) and isinstance(node.op, ast.Pow):
        if not isinstance(node.right, ast.Constant) or node.right.value not in range(65):
            yield "L27"
    if isinstance(node, ast.Constant):
        if node.value is not None and type(node.value) not in (int, str, bool):
            yield "L7"
        if isinstance(node.value, str) and "%" in node.value:
            yield "L27"
    if isinstance(node, ast.ListComp):
        if len(node.generators) != 1 or len(node.generators[0].ifs) > 1:
            yield "L7"
    if isinstance(node, ast.FormattedValue):
        if not isinstance(node.value, ast.Name) or node.conversion not in (-1, ord("r")) or node.format_spec:
            yield "L7"
    if isinstance(node, ast.Compare) and any(isinstance(op, (ast.Is, ast.IsNot)) for op in node.ops):
        if not any(isinstance(side, ast.Constant) and side.value in (None, True, False)
                   for side in [node.left] + node.comparators):
            yield "L20"


def def_faults(file, node):
    if isinstance(node, (ast.FunctionDef, ast.Lambda)):
        args = node.args
        if args.vararg or args.kwarg or args.kwonlyargs or args.posonlyargs:
            yield "L4"
        if any(arg.annotation for arg in args.args):
            yield "L21"
    if isinstance(node, ast.FunctionDef):
        if node.decorator_list:
            yield "L4"
        if node.returns:
            yield "L21"
        if node.end_lineno - node.lineno + 1 > 40:
            yield "L10"
        if node.name == "__init__" and any(isinstance(n, ast.Return) and n.value for n in ast.walk(node)):
            yield "L28"
    if isinstance(node, ast.ClassDef):
        if len(node.bases) > 1 or node.keywords or node.decorator_list:
            yield "L5"
        if not all(isinstance(n, (ast.FunctionDef, ast.Pass)) or isinstance(n, ast.Expr) and file.is_docstring(n)
                   for n in node.body):
            yield "L5"
        if not isinstance(file.parent(node), ast.Module):
            yield "L15"
        methods = [n.name for n in node.body if isinstance(n, ast.FunctionDef)]
        if len(methods) != len(set(methods)) or any(
                isinstance(base, ast.Name) and base.id in ("StopIteration", "AttributeError") for base in node.bases):
            yield "L18"


def bound_name(file, node):
    if isinstance(node, ast.Name) and isinstance(node.ctx, ast.Store):
        return node.id
    if isinstance(node, ast.arg):
        return node.arg
    if isinstance(node, (ast.FunctionDef, ast.ClassDef, ast.ExceptHandler)):
        return node.name
    return None


def name_faults(file, node):
    name = bound_name(file, node)
    if name is not None:
        is_method = isinstance(node, ast.FunctionDef) and isinstance(file.parent(node), ast.ClassDef)
        if not re.fullmatch(r"[A-Za-z][A-Za-z0-9_]*", name):
            if not (is_method and name in DUNDER_METHODS or name in ("__all__", "__version__")):
                yield "L12"
        if not is_method and name in ALL_BUILTINS:
            yield "L15"
        is_local = not isinstance(node, (ast.FunctionDef, ast.ClassDef))
        if is_local and name in file.imported() + [n.name for n in file.defs if isinstance(n, ast.ClassDef)]:
            yield "L15"
        if name in NEVER or not is_method and name in NO_NAMES:
            yield "L17"
    if isinstance(node, ast.Name) and isinstance(node.ctx, ast.Load):
        if node.id in ALL_BUILTINS and node.id not in OWN_NAMES:
            yield "L27" if node.id == "chr" else "L8"
        if node.id in NO_NAMES:
            yield "L17"
        if node.id in CALLED and not value_use_is_allowed(file, node):
            yield "L22"
        if node.id in file.kept_lists() and not read_only(file, node):
            yield "L15"


def value_use_is_allowed(file, node):
    above = file.parent(node)
    return isinstance(above, ast.Call) and above.func is node or isinstance(above, ast.keyword) and above.arg == "key"


def read_only(file, node):
    above = file.parent(node)
    if isinstance(above, ast.Subscript):
        return isinstance(above.ctx, ast.Load)
    if isinstance(above, ast.Attribute):
        return above.attr not in CHANGING
    if isinstance(above, ast.Call):
        return is_call_of(above, OWN_NAMES)
    return isinstance(above, (ast.Compare, ast.For, ast.comprehension))


def attribute_faults(file, node, own_methods, own_values):
    if not isinstance(node, ast.Attribute):
        return
    above = file.parent(node)
    is_called = isinstance(above, ast.Call) and above.func is node
    if node.attr in NEVER:
        yield "L17"
    if is_called and node.attr not in METHODS + own_methods + DUNDER_METHODS:
        yield "L25"
    if not is_called and node.attr not in own_values:
        yield "L25"
    if isinstance(node.ctx, ast.Store) and (node.attr in NO_VALUES or node.attr in own_methods):
        yield "L26"


def walking_faults(file, node):
    is_walker = is_call_of(node, WALKERS) or (
        isinstance(node, ast.Call) and isinstance(node.func, ast.Attribute)
        and node.func.attr in ("items", "keys", "values"))
    above = file.parent(node)
    if is_walker:
        walked = isinstance(above, (ast.For, ast.comprehension)) and above.iter is node
        handed = is_call_of(above, WALKED_BY) and node in above.args
        joined = (isinstance(above, ast.Call) and isinstance(above.func, ast.Attribute) and above.func.attr == "join"
                  and isinstance(above.func.value, ast.Constant))
        if not (walked or handed or joined):
            yield "L23"
    if isinstance(node, ast.Set) or is_call_of(node, ("set", "frozenset")):
        if not (isinstance(above, ast.Compare) or is_call_of(above, ("sorted", "len"))
                or isinstance(above, ast.BinOp)):
            yield "L24"


def walked_names(node):
    """The names of what a loop walks, itself or through enumerate, zip, reversed or a dict's own walks."""
    if isinstance(node, ast.Name):
        return [node.id]
    if is_call_of(node, ("enumerate", "zip", "reversed")):
        return [name for part in node.args for name in walked_names(part)]
    if isinstance(node, ast.Call) and isinstance(node.func, ast.Attribute) and not node.args:
        return walked_names(node.func.value)
    return []


def changed_name(node):
    """The name of what a node changes by a call or by an index."""
    if isinstance(node, ast.Call) and isinstance(node.func, ast.Attribute) and node.func.attr in CHANGING:
        node = node.func
    elif not (isinstance(node, ast.Subscript) and isinstance(node.ctx, ast.Store)):
        return None
    return node.value.id if isinstance(node.value, ast.Name) else None


def loop_faults(file, node):
    if isinstance(node, ast.For):
        names = walked_names(node.iter)
        if any(changed_name(inner) in names for part in node.body for inner in ast.walk(part)):
            yield "L23"


def form_faults(file, node):
    if isinstance(node, ast.Lambda):
        names = [arg.arg for arg in node.args.args]
        for other in file.nodes:
            if isinstance(other, ast.Lambda) and other is not node and other.lineno == node.lineno:
                if [arg.arg for arg in other.args.args] == names:
                    yield "L13"
    if isinstance(node, ast.Set) and len(node.elts) > 2:
        above = file.parent(node)
        if not isinstance(above, ast.Compare) or not isinstance(above.ops[0], (ast.In, ast.NotIn)):
            yield "L13"


def keyword_faults(file, node):
    if isinstance(node, ast.Call) and isinstance(node.func, ast.Name) and node.func.id in OWN_NAMES:
        for keyword in node.keywords:
            if keyword.arg not in KEYWORDS.get(node.func.id, ()):
                yield "L22"
    if isinstance(node, ast.Call) and isinstance(node.func, ast.Attribute) and node.func.attr in METHODS:
        if node.keywords:
            yield "L22"


def class_use_faults(file, node, own_classes):
    if not (isinstance(node, ast.Name) and isinstance(node.ctx, ast.Load) and node.id in own_classes):
        return
    above = file.parent(node)
    if isinstance(above, ast.Tuple):
        above = file.parent(above)
    is_called = isinstance(above, ast.Call) and above.func is node
    is_base_call = isinstance(above, ast.Attribute) and above.attr == "__init__"
    if not (is_called or is_base_call or is_call_of(above, ("isinstance",))
            or isinstance(above, (ast.ClassDef, ast.ExceptHandler))):
        yield "L18"


def is_plain(node, functions, depth=0):
    if isinstance(node, ast.UnaryOp) and isinstance(node.op, ast.USub):
        node = node.operand
    if isinstance(node, ast.Constant):
        return True
    if isinstance(node, ast.Name):
        return depth > 0 and node.id in functions
    if isinstance(node, (ast.List, ast.Dict)) and depth > 0:
        return False
    if isinstance(node, (ast.List, ast.Tuple)):
        return all(is_plain(part, functions, depth + 1) for part in node.elts)
    if isinstance(node, ast.Dict):
        return all(is_plain(part, functions, depth + 1) for part in node.keys + node.values if part is not None)
    return False


def top_faults(file):
    functions = [node.name for node in file.defs if isinstance(node, ast.FunctionDef)]
    for node in file.tree.body:
        if isinstance(node, ast.Assign):
            if not isinstance(node.targets[0], ast.Name) or not is_plain(node.value, functions):
                yield "L3", node.lineno
        elif isinstance(node, ast.Expr):
            if not file.is_docstring(node):
                yield "L3", node.lineno
        elif not isinstance(node, (ast.FunctionDef, ast.ClassDef, ast.ImportFrom)):
            yield "L3", node.lineno
    names = file.defined() + file.imported()
    for name in sorted(set(names)):
        if names.count(name) > 1:
            yield "L15", 1
    for node in file.nodes:
        if isinstance(node, ast.ImportFrom) and node not in file.tree.body:
            yield "L2", node.lineno


def import_faults(file, files):
    for node in file.imports:
        if node.module == "__future__":
            continue
        inner = (node.module or "").partition(PACKAGE + ".")[2] + ".py"
        if node.level or not (node.module or "").startswith(PACKAGE + "."):
            yield "L2", node.lineno
        elif inner not in files:
            yield "L16", node.lineno
        else:
            for alias in node.names:
                if alias.name not in files[inner].defined():
                    yield "L16", node.lineno
    if draws_from_itself(file.name, files):
        yield "L16", 1
    if file.name == "__init__.py":
        stems = [name.rsplit(".", 1)[0] for name in files]
        if [name for name in file.defined() + file.imported() if name in stems]:
            yield "L16", 1


def drawn_by(name, files):
    drawn = []
    for node in files[name].imports:
        inner = (node.module or "").partition(PACKAGE + ".")[2] + ".py"
        drawn.extend([other for other in (inner, "__init__.py") if other in files])
    return drawn


def draws_from_itself(name, files):
    waiting, seen = drawn_by(name, files), {}
    while waiting:
        other = waiting.pop()
        if other == name:
            return True
        if other not in seen:
            seen[other] = True
            waiting.extend(drawn_by(other, files))
    return False


def faults(sources):
    files = {name: File(name, text) for name, text in sources.items()}
    nodes = [node for file in files.values() for node in file.nodes]
    own_methods = [part.name for node in nodes if isinstance(node, ast.ClassDef)
                   for part in node.body if isinstance(part, ast.FunctionDef)]
    own_classes = [node.name for node in nodes if isinstance(node, ast.ClassDef)]
    own_values = [node.attr for node in nodes if isinstance(node, ast.Attribute) and isinstance(node.ctx, ast.Store)]
    found = []
    for name, file in files.items():
        for look in (text_faults(file), token_faults(file), top_faults(file), import_faults(file, files)):
            found.extend([(rule, name, line) for rule, line in look])
        for node in file.nodes:
            for look in (statement_faults(file, node), expression_faults(file, node), def_faults(file, node),
                         name_faults(file, node), attribute_faults(file, node, own_methods, own_values),
                         walking_faults(file, node), loop_faults(file, node), form_faults(file, node),
                         keyword_faults(file, node), class_use_faults(file, node, own_classes)):
                found.extend([(rule, name, getattr(node, "lineno", 1)) for rule in look])
    return found
