"""A check of the form of the code: those rules of the language that can be seen without much ado.

`complaints(files)` takes a dict from file names to texts and returns a list of texts; it does not know all rules.
"""

import ast
import builtins
import re

PACKAGE = "oldclients"
OUTSIDE = {
    "heapq": ("heappush", "heappop", "heapify", "heapreplace", "heappushpop"),
    "math": ("gcd", "lcm", "isqrt", "comb", "perm", "factorial"),
    "itertools": ("product", "combinations", "permutations"),
    "__future__": ("annotations",),
}
BUILTINS = set("""len range enumerate zip min max sum abs sorted reversed int str bool bytes list tuple dict set frozenset
isinstance ord repr any all divmod map iter next super property staticmethod classmethod NotImplemented Exception
ValueError TypeError KeyError IndexError LookupError ZeroDivisionError ArithmeticError OverflowError RuntimeError
NotImplementedError AttributeError StopIteration object""".split())
DUNDERS = set("""__init__ __eq__ __repr__ __str__ __len__ __enter__ __exit__ __call__ __iter__ __lt__ __le__ __gt__ __ge__
__ne__ __add__ __sub__ __mul__ __floordiv__ __mod__ __pow__ __and__ __or__ __xor__ __lshift__ __rshift__ __neg__ __pos__
__invert__ __abs__ __bool__ __contains__ __getitem__ __setitem__""".split())
METHODS = set("""append clear copy count endswith extend find get index insert isalnum isalpha isdigit islower isspace
isupper items join keys ljust lower lstrip partition pop remove replace reverse rfind rjust rpartition rsplit rstrip
setdefault split splitlines startswith strip update upper values zfill bit_length title capitalize swapcase casefold
center expandtabs removeprefix removesuffix rindex isascii isdecimal isnumeric istitle isidentifier isprintable
translate add discard sort encode decode hex""".split())
MODIFYING = set("append clear extend insert pop remove reverse setdefault update sort".split())
UNUSED = set("""register mro elements open input law version_info with_traceback add_note""".split())
UNUSED_NAMES = set("""attrgetter breakpoint builtins compile copyright credits delattr dir eval exec exit gc getattr globals
hasattr help id importlib license locals methodcaller os quit setattr super type vars sys __name__""".split())
WORDS = """type typing typing_extensions enum Enum IntEnum StrEnum Flag IntFlag Generic Protocol ABC ABCMeta namedtuple
NamedTuple TypedDict TYPE_CHECKING abstractmethod""".split()
NO_ATTRIBUTES = set("""items keys values pop update append clear extend insert remove reverse setdefault sort args encode
decode hex fromhex format format_map mro real imag numerator denominator conjugate from_bytes to_bytes bit_count
as_integer_ratio is_integer endswith startswith replace""".split())
FORBIDDEN = (ast.Global, ast.AsyncFunctionDef, ast.AsyncFor, ast.AsyncWith, ast.Await, ast.Div, ast.MatMult)
PLAIN_TOP = (ast.Import, ast.ImportFrom, ast.FunctionDef, ast.ClassDef, ast.Assign)


def complaints(files):
    """Return what is wrong with the form of some files."""
    found, imports, methods = [], {}, set()
    trees = {name: ast.parse(text) for name, text in files.items()}
    for name, tree in trees.items():
        imports[name] = imported_files(tree)
        methods |= {item.name for part in ast.walk(tree) if isinstance(part, ast.ClassDef)
                    for item in part.body if isinstance(item, ast.FunctionDef)}
    for name, tree in trees.items():
        rows = wrong_lines(files[name]) + wrong_top(name, tree, trees) + wrong_names(tree)
        rows += wrong_nodes(tree, methods) + wrong_classes(tree) + wrong_strings(tree) + wrong_loops(tree)
        found += [f"{name}: {row}" for row in rows]
    return found + [f"{name}: L16 it imports itself through others" for name in imports if reaches(imports, name, name)]


def imported_files(tree):
    """Return the files of the package from which a file imports."""
    return [node.module.removeprefix(PACKAGE + ".") + ".py" for node in tree.body
            if isinstance(node, ast.ImportFrom) and (node.module or "").startswith(PACKAGE + ".")]


def reaches(imports, name, goal):
    """Return whether a file imports from another one, directly or through others."""
    seen, left = set(), list(imports.get(name, []))
    while left:
        here = left.pop()
        if here not in seen:
            seen.add(here)
            left += imports.get(here, [])
    return goal in seen


def wrong_lines(text):
    """Return complaints about characters, lengths and words."""
    rows = [f"L14 line {at}: a character" for at, line in enumerate(text.split("\n"), 1)
            if not all(" " <= sign <= "~" for sign in line)]
    rows += [f"L10 line {at}: too long" for at, line in enumerate(text.split("\n"), 1) if len(line) > 120]
    if len(text.splitlines()) > 399:
        rows.append("L10: too many lines")
    if re.search("_wall|_WallAttr", text):
        rows.append("L12: a word that is not used")
    return rows


def wrong_top(name, tree, trees):
    """Return complaints about what stands at the module level."""
    rows, bound, is_behind = [], [], False
    for at, node in enumerate(tree.body):
        is_text = isinstance(node, ast.Expr) and isinstance(node.value, ast.Constant) and at == 0
        if not isinstance(node, PLAIN_TOP) and not is_text:
            rows.append(f"L3 line {node.lineno}: not allowed at module level")
        if isinstance(node, (ast.Import, ast.ImportFrom)):
            rows += wrong_import(node, trees)
            bound += [alias.asname or alias.name for alias in node.names]
            if is_behind:
                rows.append(f"L2 line {node.lineno}: imports stand at the top")
        elif not is_text:
            is_behind = True
        if isinstance(node, (ast.FunctionDef, ast.ClassDef)):
            bound.append(node.name)
        if isinstance(node, ast.Assign):
            bound += [target.id for target in node.targets if isinstance(target, ast.Name)]
            if len(node.targets) != 1 or not isinstance(node.targets[0], ast.Name):
                rows.append(f"L3 line {node.lineno}: one name is assigned at a time")
    return rows + [f"L15: {word} is bound twice" for word in sorted(set(bound)) if bound.count(word) > 1]


def wrong_import(node, trees):
    """Return complaints about an import."""
    if isinstance(node, ast.Import) or node.level or any(alias.name == "*" for alias in node.names):
        return [f"L16 line {node.lineno}: the form of an import"]
    if node.module in OUTSIDE:
        wrong = [alias.name for alias in node.names if alias.name not in OUTSIDE[node.module] or alias.asname]
        return [f"L2 line {node.lineno}: {name}" for name in wrong]
    file = node.module.removeprefix(PACKAGE + ".") + ".py"
    if file not in trees:
        return [f"L2 line {node.lineno}: {node.module}"]
    defined = [name for part in trees[file].body for name in names_of(part)]
    return [f"L16 line {node.lineno}: {alias.name} is not defined there" for alias in node.names
            if alias.name not in defined]


def names_of(node):
    """Return the names that a statement at module level defines."""
    if isinstance(node, (ast.FunctionDef, ast.ClassDef)):
        return [node.name]
    return [target.id for target in node.targets] if isinstance(node, ast.Assign) else []


def wrong_names(tree):
    """Return complaints about names that are bound, or used, and must not be."""
    rows, bound = [], []
    tops = {node.name for node in tree.body if isinstance(node, ast.ClassDef)}
    tops |= {alias.asname or alias.name for node in tree.body if isinstance(node, ast.ImportFrom) for alias in node.names}
    for node in ast.walk(tree):
        if isinstance(node, ast.arg):
            bound.append((node.arg, node.lineno, True))
        elif isinstance(node, ast.Name) and isinstance(node.ctx, ast.Store):
            bound.append((node.id, node.lineno, True))
        elif isinstance(node, ast.ClassDef) or isinstance(node, ast.FunctionDef) and node in tree.body:
            bound.append((node.name, node.lineno, False))
        elif isinstance(node, ast.Name) and node.id in dir(builtins) and node.id not in BUILTINS:
            rows.append(f"L8 line {node.lineno}: {node.id}")
        elif isinstance(node, ast.Attribute) and (node.attr in UNUSED or re.match(r"(f|tb|co)_", node.attr)):
            rows.append(f"L17 line {node.lineno}: {node.attr}")
        elif isinstance(node, ast.keyword) and node.arg in UNUSED | {"self"}:
            rows.append(f"L17 line {node.value.lineno}: {node.arg}")
    for name, line, is_local in bound:
        if name in dir(builtins) or is_local and name in tops:
            rows.append(f"L15 line {line}: {name} has another meaning")
        if name in UNUSED | UNUSED_NAMES or name.startswith("__") or not re.fullmatch("_|_?[A-Za-z][A-Za-z0-9_]*", name):
            rows.append(f"L17 line {line}: {name}")
    return rows


def wrong_nodes(tree, methods):
    """Return complaints about statements and expressions."""
    rows = []
    for node in ast.walk(tree):
        line = getattr(node, "lineno", 0)
        if isinstance(node, FORBIDDEN) or isinstance(node, ast.Constant) and isinstance(node.value, (float, complex)):
            rows.append(f"L6 or L7 line {line}: {type(node).__name__}")
        if isinstance(node, (ast.FunctionDef, ast.Lambda)):
            rows += wrong_function(node)
        if isinstance(node, ast.BinOp) and isinstance(node.op, ast.Pow) and not isinstance(node.right, ast.Constant):
            rows.append(f"L27 line {line}: a power")
        if isinstance(node, ast.Compare):
            for sign, side in zip(node.ops, node.comparators):
                if isinstance(sign, (ast.Is, ast.IsNot)) and not isinstance(getattr(side, "value", 0), (bool, type(None))):
                    rows.append(f"L20 line {line}: is")
        if isinstance(node, ast.Call) and isinstance(node.func, ast.Attribute):
            if node.func.attr not in METHODS | methods and node.func.attr != "__init__":
                rows.append(f"L25 line {line}: {node.func.attr}")
        if isinstance(node, ast.AnnAssign) or isinstance(node, ast.arg) and node.annotation:
            rows.append(f"L21 line {line}: an annotation (prefer none)")
        if isinstance(node, ast.Raise) and node.exc and not isinstance(node.exc, ast.Call):
            rows.append(f"L19 line {line}: raise creates its error on the spot")
        if isinstance(node, ast.GeneratorExp):
            rows.append(f"L7 line {line}: a generator expression where classes have __eq__")
        if isinstance(node, (ast.Attribute, ast.Name)) and getattr(node, "attr", getattr(node, "id", "")) == "frozenset":
            rows.append(f"L24 line {line}: frozenset")
    return rows


def wrong_function(node):
    """Return complaints about a function as a whole."""
    rows = []
    if isinstance(node, ast.FunctionDef):
        if node.end_lineno - node.lineno + 1 > 40:
            rows.append(f"L10 line {node.lineno}: {node.name} is too long")
        names = [word.id if isinstance(word, ast.Name) else "another" for word in node.decorator_list]
        if any(name not in ("property", "staticmethod", "classmethod") for name in names):
            rows.append(f"L4 line {node.lineno}: a decorator")
        if node.name.startswith("__") and node.name not in DUNDERS:
            rows.append(f"L5 line {node.lineno}: {node.name}")
    for value in node.args.defaults + [value for value in node.args.kw_defaults if value]:
        if isinstance(value, (ast.List, ast.Dict, ast.Set, ast.Call)):
            rows.append(f"L4 line {node.lineno}: a default value")
    return rows


def wrong_classes(tree):
    """Return complaints about classes and their attributes."""
    rows = []
    for node in ast.walk(tree):
        if isinstance(node, ast.ClassDef):
            own = [part.name for part in node.body if isinstance(part, ast.FunctionDef)]
            held = {part.attr for part in ast.walk(node) if isinstance(part, ast.Attribute)
                    and isinstance(part.ctx, ast.Store)}
            rows += [f"L18 line {node.lineno}: {name} is a method and an attribute" for name in sorted(held & set(own))]
            rows += [f"L26 line {node.lineno}: the attribute {name}" for name in sorted(held & NO_ATTRIBUTES)]
            rows += [f"L18 line {node.lineno}: {name} stands twice" for name in set(own) if own.count(name) > 1]
            if "__getitem__" in own and "__iter__" not in own:
                rows.append(f"L5 line {node.lineno}: __getitem__ without __iter__")
            if node.decorator_list or len(node.bases) > 1:
                rows.append(f"L5 line {node.lineno}: the head of a class")
    return rows


def docstrings(tree):
    """Return the nodes of the docstrings of a file."""
    found = []
    for node in ast.walk(tree):
        if isinstance(node, (ast.Module, ast.ClassDef, ast.FunctionDef)) and node.body:
            first = node.body[0]
            if isinstance(first, ast.Expr) and isinstance(first.value, ast.Constant):
                found.append(first.value)
    return found


def wrong_strings(tree):
    """Return complaints about strings and words."""
    rows, told = [], docstrings(tree)
    for node in ast.walk(tree):
        if isinstance(node, ast.Constant) and isinstance(node.value, str):
            if "%" in node.value or node.value.endswith(("._", ".__")):
                rows.append(f"L27 line {node.lineno}: a string")
            words = re.findall(r"\w+", node.value)
            if node not in told and any(word in words for word in WORDS[1:]):
                rows.append(f"L17 line {node.lineno}: a word in a string")
            if any(word in node.value for word in ("dataclass", "overload", "contextmanager", "Meta", "metaclass=")):
                rows.append(f"L17 line {node.lineno}: a word in a string")
        if isinstance(node, (ast.Name, ast.Attribute)):
            if getattr(node, "id", getattr(node, "attr", "")) in WORDS:
                rows.append(f"L17 line {node.lineno}: a word")
    return rows


def wrong_loops(tree):
    """Return complaints about loops that modify what they go over, sets that are iterated, and sorting."""
    rows = []
    for node in ast.walk(tree):
        if isinstance(node, ast.For):
            over = {ast.unparse(part) for part in ast.walk(node.iter) if isinstance(part, (ast.Name, ast.Attribute))}
            copied = isinstance(node.iter, ast.Call) and getattr(node.iter.func, "id", "") in ("list", "sorted", "tuple")
            for part in [part for row in node.body for part in ast.walk(row)]:
                if changed_by(part) in over and not copied:
                    rows.append(f"L23 line {part.lineno}: it modifies what the loop goes over")
        sources = [node.iter] if isinstance(node, (ast.For, ast.comprehension)) else []
        if any(isinstance(part, (ast.Set, ast.SetComp)) or getattr(getattr(part, "func", None), "id", "") == "set"
               for part in sources):
            rows.append("L24: a set is iterated")
        if isinstance(node, ast.Call) and getattr(node.func, "attr", "") == "sort":
            rows.append(f"L25 line {node.lineno}: sort where classes compare")
    return rows


def changed_by(node):
    """Return the text of what a call or an assignment modifies, or None."""
    if isinstance(node, ast.Call) and isinstance(node.func, ast.Attribute) and node.func.attr in MODIFYING:
        return ast.unparse(node.func.value)
    if isinstance(node, ast.Subscript) and isinstance(node.ctx, (ast.Store, ast.Del)):
        return ast.unparse(node.value)
    if isinstance(node, ast.AugAssign):
        return ast.unparse(node.target)
    return None
