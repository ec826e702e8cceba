"""A check of the form of the code: those rules of the language that can be seen without much ado.

`complaints(files)` takes a dict from file names to texts and returns a list of texts. It does not know all rules,
and of those that it knows it lets pass what may be right.
"""

import ast
import builtins
import re

PACKAGE = "oldclients"
OUTSIDE = {
    "heapq": ("heappush", "heappop", "heapify", "heapreplace", "heappushpop"),
    "math": ("gcd", "lcm", "isqrt", "comb", "perm", "factorial"),
    "itertools": ("product", "combinations", "permutations"),
    "__future__": ("annotations",),
}
BUILTINS = set("""
    len range enumerate zip min max sum abs sorted reversed int str bool bytes list tuple dict set frozenset isinstance
    ord repr any all divmod map iter next super property staticmethod classmethod object float NotImplemented Exception
    ValueError TypeError KeyError IndexError LookupError ZeroDivisionError ArithmeticError OverflowError RuntimeError
    NotImplementedError AttributeError StopIteration
""".split())
OPERATORS = "lt le gt ge ne neg pos invert abs bool contains getitem setitem".split()
ARITHMETIC = "add sub mul floordiv mod pow and or xor lshift rshift".split()
DUNDERS = {f"__{name}__" for name in "init eq repr str len enter exit call iter".split() + OPERATORS}
DUNDERS |= {f"__{prefix}{name}__" for name in ARITHMETIC for prefix in ("", "r", "i")} - {"__rpow__"}
METHODS = set("""
    append clear copy count endswith extend find get index insert isalnum isalpha isdigit islower isspace isupper items
    join keys ljust lower lstrip partition pop remove replace reverse rfind rjust rpartition rsplit rstrip setdefault
    split splitlines startswith strip update upper values zfill bit_length title capitalize swapcase casefold center
    expandtabs removeprefix removesuffix rindex isascii isdecimal isnumeric istitle isidentifier isprintable translate
    maketrans add discard sort encode decode hex from_bytes __init__
""".split())
MODIFYING = "append clear extend insert pop remove reverse setdefault update sort".split()
UNUSED = "register mro elements open input law version_info with_traceback add_note".split()
FRAMES = "f_back f_code f_globals f_locals f_lineno tb_next tb_frame tb_lineno co_names co_code co_consts".split()
UNUSED_NAMES = set("""
    attrgetter breakpoint builtins compile copyright credits delattr dir eval exec exit gc getattr globals hasattr help
    id importlib license locals methodcaller os quit setattr super type vars sys __name__
""".split())
WORDS = """
    typing typing_extensions enum Enum IntEnum StrEnum Flag IntFlag Generic Protocol ABC ABCMeta namedtuple NamedTuple
    TypedDict TYPE_CHECKING abstractmethod
""".split()
INNER_WORDS = "dataclass overload contextmanager".split()
NO_ATTRIBUTES = set("""
    items keys values pop update append clear extend insert remove reverse setdefault sort args encode decode hex
    fromhex format format_map mro real imag numerator denominator conjugate from_bytes to_bytes bit_count
    as_integer_ratio is_integer
""".split())
FORBIDDEN = (ast.Global, ast.AsyncFunctionDef, ast.AsyncFor, ast.AsyncWith, ast.Await, ast.Div, ast.MatMult)
TOP_LEVEL = (ast.Import, ast.ImportFrom, ast.FunctionDef, ast.ClassDef, ast.Assign, ast.AnnAssign)
OVER = ("enumerate", "zip", "reversed")


def complaints(files):
    """Return what is wrong with the form of some files."""
    trees = {name: ast.parse(text) for name, text in files.items()}
    imports = {name: imported_files(tree) for name, tree in trees.items()}
    called = {word for tree in trees.values() for word in called_names(tree)}
    found = []
    for name, tree in trees.items():
        rows = wrong_lines(files[name]) + wrong_top(tree, trees) + wrong_names(tree) + wrong_nodes(tree, called)
        rows += wrong_classes(tree) + wrong_strings(tree) + wrong_loops(tree)
        found += [f"{name}: {row}" for row in rows]
    return found + [f"{name}: L16 it imports itself through others" for name in imports if reaches(imports, name)]


def imported_files(tree):
    """Return the files of the package from which a file imports."""
    return [file_of(node.module) for node in tree.body
            if isinstance(node, ast.ImportFrom) and (node.module or "").startswith(PACKAGE + ".")]


def file_of(module):
    """Return the name of the file of a module of the package."""
    return module.removeprefix(PACKAGE + ".").replace(".", "/") + ".py"


def called_names(tree):
    """Return what may be called behind a dot: own methods, and attributes that are assigned."""
    for node in ast.walk(tree):
        if isinstance(node, ast.FunctionDef):
            yield node.name
        if isinstance(node, ast.Attribute) and isinstance(node.ctx, ast.Store):
            yield node.attr


def reaches(imports, goal):
    """Return whether a file imports from itself, through others."""
    seen, left = set(), list(imports[goal])
    while left:
        here = left.pop()
        if here not in seen:
            seen.add(here)
            left += imports.get(here, [])
    return goal in seen


def wrong_lines(text):
    """Return complaints about characters, lengths and words."""
    lines = text.split("\n")
    rows = [f"L14 line {at}: a character" for at, line in enumerate(lines, 1)
            if not all(" " <= sign <= "~" for sign in line)]
    rows += [f"L10 line {at}: too long" for at, line in enumerate(lines, 1) if len(line) > 120]
    if len(text.splitlines()) > 399:
        rows.append("L10: too many lines")
    if re.search("_wall|_WallAttr", text):
        rows.append("L12: a word that is not used")
    return rows


def wrong_top(tree, trees):
    """Return complaints about what stands at the module level."""
    rows, bound, is_behind = [], [], False
    for at, node in enumerate(tree.body):
        if isinstance(node, ast.Expr) and isinstance(node.value, ast.Constant) and at == 0:
            continue
        if not isinstance(node, TOP_LEVEL):
            rows.append(f"L3 line {node.lineno}: not allowed at module level")
        if isinstance(node, (ast.Import, ast.ImportFrom)):
            rows += wrong_import(node, trees)
            if is_behind:
                rows.append(f"L2 line {node.lineno}: imports stand at the top")
        else:
            is_behind = True
        names = names_of(node)
        bound += names
        if isinstance(node, ast.Assign) and len(names) != 1:
            rows.append(f"L3 line {node.lineno}: one name is assigned at a time")
    return rows + [f"L15: {word} is bound twice" for word in sorted(set(bound)) if bound.count(word) > 1]


def wrong_import(node, trees):
    """Return complaints about an import."""
    if isinstance(node, ast.Import) or node.level or any(alias.name == "*" for alias in node.names):
        return [f"L16 line {node.lineno}: the form of an import"]
    if node.module in OUTSIDE:
        wrong = [alias.name for alias in node.names if alias.name not in OUTSIDE[node.module] or alias.asname]
        return [f"L2 line {node.lineno}: {name}" for name in wrong]
    if file_of(node.module) not in trees:
        return [f"L2 line {node.lineno}: {node.module}"]
    defined = [name for part in trees[file_of(node.module)].body if not isinstance(part, ast.ImportFrom)
               for name in names_of(part)]
    return [f"L16 line {node.lineno}: {alias.name} is not defined there" for alias in node.names
            if alias.name not in defined]


def names_of(node):
    """Return the names that a statement at module level binds."""
    if isinstance(node, (ast.FunctionDef, ast.ClassDef)):
        return [node.name]
    if isinstance(node, (ast.Import, ast.ImportFrom)):
        return [alias.asname or alias.name for alias in node.names]
    targets = node.targets if isinstance(node, ast.Assign) else [node.target] if isinstance(node, ast.AnnAssign) else []
    return [target.id for target in targets if isinstance(target, ast.Name)]


def bound_names(tree):
    """Yield (name, line, whether it is local) for what a file binds, but for methods and imports."""
    for node in ast.walk(tree):
        if isinstance(node, ast.arg):
            yield node.arg, node.lineno, True
        elif isinstance(node, ast.Name) and isinstance(node.ctx, ast.Store):
            yield node.id, node.lineno, True
        elif isinstance(node, ast.ClassDef) or isinstance(node, ast.FunctionDef) and node in tree.body:
            yield node.name, node.lineno, False


def wrong_names(tree):
    """Return complaints about names that are bound, or used, and must not be."""
    rows = []
    tops = [name for node in tree.body if isinstance(node, (ast.ClassDef, ast.ImportFrom)) for name in names_of(node)]
    for node in ast.walk(tree):
        if isinstance(node, ast.Name) and node.id in dir(builtins) and node.id not in BUILTINS:
            rows.append(f"L8 line {node.lineno}: {node.id}")
        elif isinstance(node, ast.Attribute) and node.attr in UNUSED + FRAMES:
            rows.append(f"L17 line {node.lineno}: {node.attr}")
        elif isinstance(node, ast.keyword) and node.arg in UNUSED + ["self"]:
            rows.append(f"L17 line {node.value.lineno}: {node.arg}")
    for name, line, is_local in bound_names(tree):
        if name in dir(builtins) or is_local and name in tops:
            rows.append(f"L15 line {line}: {name} has another meaning")
        if name in UNUSED or name in UNUSED_NAMES:
            rows.append(f"L17 line {line}: {name}")
        if name.startswith("__") or not re.fullmatch("_|_?[A-Za-z][A-Za-z0-9_]*", name):
            rows.append(f"L12 line {line}: {name}")
    return rows


def wrong_nodes(tree, called):
    """Return complaints about statements and expressions."""
    rows = []
    for node in ast.walk(tree):
        line = getattr(node, "lineno", 0)
        if isinstance(node, FORBIDDEN) or isinstance(node, ast.Constant) and isinstance(node.value, (float, complex)):
            rows.append(f"L6 or L7 line {line}: {type(node).__name__}")
        if isinstance(node, (ast.FunctionDef, ast.Lambda)):
            rows += wrong_function(node)
        if isinstance(node, ast.BinOp) and isinstance(node.op, ast.Pow):
            if isinstance(node.left, ast.Constant) and not isinstance(node.right, ast.Constant):
                rows.append(f"L27 line {line}: a power")
        if isinstance(node, ast.Compare) and any(isinstance(sign, (ast.Is, ast.IsNot)) for sign in node.ops):
            sides = [side.value for side in [node.left] + node.comparators if isinstance(side, ast.Constant)]
            if any(value not in (None, True, False) or isinstance(value, int) and value not in (True, False)
                   for value in sides):
                rows.append(f"L20 line {line}: is")
        if isinstance(node, ast.Call) and isinstance(node.func, ast.Attribute):
            if node.func.attr not in METHODS and node.func.attr not in called:
                rows.append(f"L25 line {line}: {node.func.attr}")
        if isinstance(node, ast.Raise) and node.exc and not isinstance(node.exc, ast.Call):
            rows.append(f"L19 line {line}: raise creates its error on the spot")
    return rows


def wrong_function(node):
    """Return complaints about a function as a whole."""
    rows = []
    if isinstance(node, ast.FunctionDef):
        if node.end_lineno - node.lineno + 1 > 40:
            rows.append(f"L10 line {node.lineno}: {node.name} is too long")
        words = [ast.unparse(word) for word in node.decorator_list]
        if any(word not in ("property", "staticmethod", "classmethod", node.name + ".setter") for word in words):
            rows.append(f"L4 line {node.lineno}: a decorator")
        if node.name.startswith("__") and node.name not in DUNDERS:
            rows.append(f"L5 line {node.lineno}: {node.name}")
    for value in node.args.defaults + [value for value in node.args.kw_defaults if value]:
        if isinstance(value, (ast.List, ast.Dict, ast.Set, ast.Call)):
            rows.append(f"L4 line {node.lineno}: a default value")
    return rows


def wrong_classes(tree):
    """Return complaints about classes and their attributes."""
    rows = []
    for node in ast.walk(tree):
        if isinstance(node, ast.ClassDef):
            own = [part.name for part in node.body if isinstance(part, ast.FunctionDef) and not part.decorator_list]
            held = {part.attr for part in ast.walk(node) if isinstance(part, ast.Attribute)
                    and isinstance(part.ctx, ast.Store) and ast.unparse(part.value) == "self"}
            rows += [f"L18 line {node.lineno}: {name} is a method and an attribute" for name in sorted(held & set(own))]
            rows += [f"L26 line {node.lineno}: the attribute {name}" for name in sorted(held & NO_ATTRIBUTES)]
            rows += [f"L18 line {node.lineno}: {name} stands twice" for name in set(own) if own.count(name) > 1]
            if "__getitem__" in own and "__iter__" not in own and not node.bases:
                rows.append(f"L5 line {node.lineno}: __getitem__ without __iter__")
            if node.decorator_list:
                rows.append(f"L5 line {node.lineno}: a decorator over a class")
    return rows


def docstrings(tree):
    """Return the nodes of the docstrings of a file."""
    owners = [node for node in ast.walk(tree) if isinstance(node, (ast.Module, ast.ClassDef, ast.FunctionDef))]
    return [node.body[0].value for node in owners if node.body and isinstance(node.body[0], ast.Expr)]


def wrong_strings(tree):
    """Return complaints about strings, and about words wherever they stand."""
    rows, told = [], docstrings(tree)
    for node in ast.walk(tree):
        text = ""
        if isinstance(node, ast.Constant) and isinstance(node.value, str):
            if "%" in node.value or node.value.endswith(("._", ".__")):
                rows.append(f"L27 line {node.lineno}: a string")
            text = "" if node in told else node.value
        elif isinstance(node, (ast.Name, ast.Attribute)):
            text = getattr(node, "id", getattr(node, "attr", ""))
            if text == "type":
                rows.append(f"L17 line {node.lineno}: a word")
        if any(word in WORDS for word in re.findall(r"\w+", text)) or any(word in text for word in INNER_WORDS):
            rows.append(f"L17 line {node.lineno}: a word")
    return rows


def gone_through(node):
    """Return the texts of the names and attributes that a loop goes over."""
    if isinstance(node, ast.Call):
        if getattr(node.func, "id", "") in OVER:
            return [text for value in node.args for text in gone_through(value)]
        if isinstance(node.func, ast.Attribute) and node.func.attr in ("items", "keys", "values"):
            return [ast.unparse(node.func.value)]
        return []
    return [ast.unparse(node)] if isinstance(node, (ast.Name, ast.Attribute, ast.Subscript)) else []


def wrong_loops(tree):
    """Return complaints about loops that modify what they go over, sets that are iterated, and sorting."""
    rows = []
    for node in ast.walk(tree):
        if isinstance(node, ast.For):
            over = gone_through(node.iter)
            rows += [f"L23 line {part.lineno}: it modifies what the loop goes over"
                     for row in node.body for part in ast.walk(row) if changed_by(part) in over]
        if isinstance(node, (ast.For, ast.comprehension)):
            kind = node.iter
            if isinstance(kind, (ast.Set, ast.SetComp)) or getattr(getattr(kind, "func", None), "id", "") == "set":
                rows.append(f"L24 line {kind.lineno}: a set is iterated")
        if isinstance(node, ast.Call) and getattr(node.func, "attr", "") == "sort":
            rows.append(f"L25 line {node.lineno}: sort where classes compare")
    return rows


def changed_by(node):
    """Return the text of what a call or an assignment modifies, or None."""
    if isinstance(node, ast.Call) and isinstance(node.func, ast.Attribute) and node.func.attr in MODIFYING:
        return ast.unparse(node.func.value)
    if isinstance(node, ast.Subscript) and isinstance(node.ctx, (ast.Store, ast.Del)):
        return ast.unparse(node.value)
    return None
