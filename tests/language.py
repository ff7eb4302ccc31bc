"""Looks through a package for what ../shared/LANGUAGE.md does not let stand.

Only what the text of a file shows for certain is looked at: each fault is
told as "L7 roundlist/making.py:12 what is wrong".
"""
import ast
import builtins
import io
import re
import tokenize

LIBRARY = {
    "__future__": {"annotations"},
    "heapq": {"heappush", "heappop", "heapify", "heapreplace", "heappushpop"},
    "math": {"gcd", "lcm", "isqrt", "comb", "perm", "factorial"},
    "itertools": {
        "product", "combinations", "permutations", "chain", "accumulate", "pairwise", "islice", "zip_longest",
    },
    "collections": {"defaultdict", "deque"},
}
BUILTINS = set("""
    len range enumerate zip min max sum abs sorted reversed int str bool bytes list tuple dict set frozenset
    isinstance ord repr any all divmod pow getattr hasattr setattr iter next map super type object float
    property staticmethod classmethod
    Exception ValueError TypeError KeyError IndexError LookupError ZeroDivisionError ArithmeticError
    OverflowError RuntimeError NotImplementedError AttributeError StopIteration NotImplemented
""".split())
CAUGHT = {"KeyError", "ZeroDivisionError", "StopIteration", "ValueError", "LookupError", "IndexError"}
DECORATORS = {"property", "staticmethod", "classmethod"}
METHODS = set("""
    append clear copy count endswith extend find get index insert isalnum isalpha isdigit islower isspace isupper
    items join keys ljust lower lstrip partition pop remove replace reverse rfind rjust rpartition rsplit rstrip
    setdefault split splitlines startswith strip update upper values zfill bit_length
    title capitalize swapcase casefold center expandtabs removeprefix removesuffix rindex isascii isdecimal
    isnumeric istitle isidentifier isprintable translate maketrans encode decode hex sort add discard format
    from_iterable from_bytes appendleft popleft extendleft rotate
""".split())
SPECIAL = set("""
    init eq repr str len enter exit call iter lt le gt ge ne add sub mul floordiv mod pow and or xor lshift rshift
    neg pos invert abs bool contains getitem setitem
""".split())
SPECIAL |= {sign + name for name in ("add", "sub", "mul", "floordiv", "mod", "and", "or", "xor", "lshift", "rshift")
            for sign in "ri"} | {"ipow"}
NEVER_NAMES = {
    "register", "mro", "elements", "open", "input", "law", "version_info", "with_traceback", "add_note",
    "_wall", "_WallAttr", "_cold", "_tuplegetter", "_outside", "_record", "_written_out", "_member_names",
}
NEVER_WORDS = re.compile(
    r"\b(typing|typing_extensions|enum|Enum|IntEnum|StrEnum|Flag|IntFlag|Generic|Protocol|ABC|ABCMeta|namedtuple"
    r"|NamedTuple|TypedDict|TYPE_CHECKING|abstractmethod)\b|dataclass|overload|contextmanager"
)
FORBIDDEN_NODES = {
    ast.AsyncFunctionDef: "L6", ast.AsyncFor: "L6", ast.AsyncWith: "L6", ast.Await: "L6", ast.TryStar: "L6",
    ast.Div: "L7", ast.MatMult: "L7",
}


def text_faults(path, text):
    """Faults of the characters, the lines and the words of a file."""
    lines = text.split("\n")
    if len(text.splitlines()) > 399:
        yield "L10", 1, "more than 399 lines"
    for number, line in enumerate(lines, 1):
        if len(line) > 120:
            yield "L10", number, "a line of more than 120 characters"
        if any(not " " <= sign <= "~" for sign in line):
            yield "L14", number, "a character outside the blank to ~"
    if not re.fullmatch(r"([a-z0-9_]+/)*[a-z0-9_]+\.py", path):
        yield "L14", 1, "a file name that is not plain and lower-case"
    for token in tokenize.generate_tokens(io.StringIO(text).readline):
        if token.type == tokenize.NAME and NEVER_WORDS.search(token.string):
            yield "L17", token.start[0], f"the word {token.string}"


def module_faults(tree):
    """Faults of what stands at module level."""
    bound = set()
    imports_over = False
    for at, node in enumerate(tree.body):
        is_import = isinstance(node, (ast.Import, ast.ImportFrom))
        if is_import and imports_over:
            yield "L2", node.lineno, "an import below other statements"
        is_docstring = at == 0 and isinstance(node, ast.Expr) and isinstance(node.value, ast.Constant)
        imports_over = imports_over or not (is_import or is_docstring)
        plain = isinstance(node, (ast.FunctionDef, ast.ClassDef)) or is_import or is_docstring
        if not plain and not is_plain_assignment(node):
            yield "L3", node.lineno, "a statement that may not stand at module level"
        for name in bound_names(node):
            if name in bound:
                yield "L15", node.lineno, f"{name} is bound twice"
            bound.add(name)
    for node in ast.walk(tree):
        if isinstance(node, (ast.Import, ast.ImportFrom)) and node not in tree.body:
            yield "L2", node.lineno, "an import that is not at the top"


def is_plain_assignment(node):
    """Whether one name is assigned a value that is made of literals, names and signs."""
    if isinstance(node, ast.Assign):
        target = node.targets[0] if len(node.targets) == 1 else None
    elif isinstance(node, ast.AnnAssign) and node.value is not None:
        target = node.target
    else:
        return False
    parts = (ast.Constant, ast.Name, ast.List, ast.Tuple, ast.Dict, ast.BinOp, ast.UnaryOp, ast.operator,
             ast.unaryop, ast.expr_context)
    return isinstance(target, ast.Name) and all(isinstance(part, parts) for part in ast.walk(node.value))


def bound_names(node):
    """The names that a statement binds at module level."""
    if isinstance(node, (ast.Import, ast.ImportFrom)):
        return [alias.asname or alias.name for alias in node.names]
    if isinstance(node, (ast.FunctionDef, ast.ClassDef)):
        return [node.name]
    if isinstance(node, ast.Assign):
        return [target.id for target in node.targets if isinstance(target, ast.Name)]
    return []


def import_faults(tree, trees):
    """Faults of what a file imports."""
    for node in tree.body:
        if isinstance(node, ast.Import):
            yield "L16", node.lineno, "an import of a module"
        if not isinstance(node, ast.ImportFrom):
            continue
        source = imported_path(node, trees)
        for alias in node.names:
            if node.level or alias.name == "*":
                yield "L2", node.lineno, "an import by a dot or a star"
            elif source is None and alias.name not in LIBRARY.get(node.module, ()):
                yield "L2", node.lineno, f"{alias.name} of {node.module}"
            elif source is not None and alias.name not in defined_names(trees[source]):
                yield "L16", node.lineno, f"{alias.name} is not defined in {source}"


def imported_path(node, trees):
    """The file of the package that an import names."""
    stem = (node.module or "").replace(".", "/")
    return next((path for path in (f"{stem}.py", f"{stem}/__init__.py") if path in trees), None)


def defined_names(tree):
    """The names that a file binds itself, not by an import."""
    kept = [node for node in tree.body if not isinstance(node, (ast.Import, ast.ImportFrom))]
    return {name for node in kept for name in bound_names(node)}


def cycle_faults(trees):
    """Faults of files that import from each other."""
    ahead = {
        path: {imported_path(node, trees) for node in tree.body if isinstance(node, ast.ImportFrom)} - {None}
        for path, tree in trees.items()
    }
    for path in trees:
        reached, waiting = set(), list(ahead[path])
        while waiting:
            step = waiting.pop()
            if step not in reached:
                reached.add(step)
                waiting.extend(ahead[step])
        if path in reached:
            yield path, ("L16", 1, "the file imports from itself through others")


def name_faults(tree, methods):
    """Faults of names: what is bound, what is called, what is read."""
    for node in ast.walk(tree):
        for name in names_of(node):
            special = name.startswith("__") and name.endswith("__")
            if not name.isascii() or (name.startswith("__") and not special):
                yield "L12", node.lineno, f"the name {name}"
            if name in NEVER_NAMES:
                yield "L17", node.lineno, f"the name {name}"
            if not isinstance(node, ast.Attribute) and name not in methods and hasattr(builtins, name):
                yield "L15", node.lineno, f"{name} is the name of a builtin"
        if isinstance(node, ast.Name) and isinstance(node.ctx, ast.Load):
            if node.id == "_":
                yield "L12", node.lineno, "_ is read"
            if hasattr(builtins, node.id) and node.id not in BUILTINS | {"__name__"}:
                yield "L8", node.lineno, f"the builtin {node.id}"
        if isinstance(node, ast.Call) and isinstance(node.func, ast.Attribute):
            if node.func.attr not in METHODS | methods and not is_special(node.func.attr):
                yield "L25", node.lineno, f"the method {node.func.attr}"


def names_of(node):
    """The names that a node binds or reads off an object."""
    if isinstance(node, (ast.FunctionDef, ast.ClassDef)):
        return [node.name]
    if isinstance(node, ast.arg):
        return [node.arg]
    if isinstance(node, ast.Attribute):
        return [node.attr]
    if isinstance(node, ast.ExceptHandler) and node.name:
        return [node.name]
    if isinstance(node, ast.Name) and not isinstance(node.ctx, ast.Load):
        return [node.id]
    return []


def is_special(name):
    """Whether this is one of the double-underscore methods that may stand."""
    return name.startswith("__") and name.endswith("__") and name[2:-2] in SPECIAL


def class_faults(tree):
    """Faults of classes and of what stands over functions."""
    within = {id(part) for node in tree.body if isinstance(node, ast.ClassDef) for part in node.body}
    for node in ast.walk(tree):
        if isinstance(node, ast.ClassDef):
            if node.decorator_list or node.keywords:
                yield "L5", node.lineno, "a class with a decorator or a keyword"
            if node not in tree.body:
                yield "L18", node.lineno, "a class that is not at module level"
            for part in node.body:
                if isinstance(part, ast.FunctionDef) and part.name.startswith("__") and not is_special(part.name):
                    yield "L5", part.lineno, f"the method {part.name}"
        if isinstance(node, ast.FunctionDef):
            if node.end_lineno - node.lineno + 1 > 40:
                yield "L10", node.lineno, "a function of more than 40 lines"
            for over in node.decorator_list:
                setter = isinstance(over, ast.Attribute) and over.attr == "setter"
                known = isinstance(over, ast.Name) and over.id in DECORATORS
                if id(node) not in within or not (setter or known):
                    yield "L4", node.lineno, "a decorator that may not stand"


def expression_faults(tree):
    """Faults of values, tests, loops and errors."""
    errors = CAUGHT | {node.name for node in ast.walk(tree) if isinstance(node, ast.ClassDef)}
    errors |= {name for node in tree.body if isinstance(node, ast.ImportFrom) for name in bound_names(node)}
    for node in ast.walk(tree):
        if type(node) in FORBIDDEN_NODES:
            yield FORBIDDEN_NODES[type(node)], getattr(node, "lineno", 0), "a sign or statement that may not stand"
        if isinstance(node, ast.Constant) and isinstance(node.value, (float, complex, type(...))):
            yield "L7", node.lineno, "a value that is no plain one"
        if isinstance(node, ast.Compare) and any(isinstance(sign, (ast.Is, ast.IsNot)) for sign in node.ops):
            if not any(is_is_side(side) for side in [node.left, *node.comparators]):
                yield "L20", node.lineno, "is between two values"
        if isinstance(node, (ast.For, ast.comprehension)) and is_set(node.iter):
            yield "L24", node.iter.lineno, "a set is iterated"
        if isinstance(node, ast.AnnAssign) and node.value is None:
            yield "L21", node.lineno, "an annotation without a value"
        if isinstance(node, ast.Raise) and node.exc is not None and not isinstance(node.exc, ast.Call):
            yield "L19", node.lineno, "an error that is not created on the spot"
        if isinstance(node, ast.ExceptHandler):
            named = node.type.elts if isinstance(node.type, ast.Tuple) else [node.type]
            if not all(isinstance(part, ast.Name) and part.id in errors for part in named):
                yield "L19", node.lineno, "an error that may not be caught"


def is_is_side(node):
    """Whether `is` may stand beside this."""
    if isinstance(node, ast.Call):
        return isinstance(node.func, ast.Name) and node.func.id == "type"
    return isinstance(node, ast.Constant) or isinstance(node, ast.Name) and node.id == "self"


def is_set(node):
    """Whether this is plainly a set."""
    if isinstance(node, ast.Call):
        return isinstance(node.func, ast.Name) and node.func.id in ("set", "frozenset")
    return isinstance(node, (ast.Set, ast.SetComp))


def package_faults(files):
    """All faults of a package without a __main__.py, a dict of texts by paths."""
    trees = {path: ast.parse(text) for path, text in files.items()}
    methods = {
        part.name for tree in trees.values() for node in ast.walk(tree) if isinstance(node, ast.ClassDef)
        for part in node.body if isinstance(part, ast.FunctionDef)
    }
    found = list(cycle_faults(trees))
    for path, tree in trees.items():
        for part in (
            text_faults(path, files[path]), module_faults(tree), import_faults(tree, trees),
            name_faults(tree, methods), class_faults(tree), expression_faults(tree),
        ):
            found.extend((path, fault) for fault in part)
    return [f"{rule} {path}:{line} {what}" for path, (rule, line, what) in found]
