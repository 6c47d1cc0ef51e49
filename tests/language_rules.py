"""What a script can see of the rules of LANGUAGE.md: each function tells the places that break one.

A place is a string: the rule, the file, the line and what is wrong there. The rules are read
narrowly: what is told here is not allowed, but not all that is not allowed is told.
"""

import ast
import builtins
import os
import re

PACKAGE = "splitbooks"
LIBRARY = {
    "heapq": {"heappush", "heappop", "heapify", "heapreplace", "heappushpop"},
    "math": {"gcd", "lcm", "isqrt", "comb", "perm", "factorial"},
    "itertools": {"product", "combinations", "permutations", "chain", "accumulate", "pairwise", "islice",
                  "zip_longest"},
    "collections": {"defaultdict", "deque"},
}
BUILTINS = set("""len range enumerate zip min max sum abs sorted reversed int str bool bytes list tuple dict set
frozenset isinstance ord repr any all divmod pow getattr hasattr setattr Exception ValueError TypeError KeyError
IndexError LookupError ZeroDivisionError ArithmeticError OverflowError RuntimeError NotImplementedError
AttributeError StopIteration NotImplemented iter next map type super property staticmethod classmethod
object float""".split())
ALL_BUILTINS = {name for name in vars(builtins) if not name.startswith("_")}
DUNDERS = set("""__init__ __eq__ __repr__ __str__ __len__ __enter__ __exit__ __call__ __iter__ __lt__ __le__ __gt__
__ge__ __ne__ __add__ __sub__ __mul__ __floordiv__ __mod__ __pow__ __and__ __or__ __xor__ __lshift__ __rshift__
__radd__ __rsub__ __rmul__ __rfloordiv__ __rmod__ __rand__ __ror__ __rxor__ __rlshift__ __rrshift__ __iadd__
__isub__ __imul__ __ifloordiv__ __imod__ __ipow__ __iand__ __ior__ __ixor__ __ilshift__ __irshift__ __neg__
__pos__ __invert__ __abs__ __bool__ __contains__ __getitem__ __setitem__""".split())
METHODS = set("""append clear copy count endswith extend find get index insert isalnum isalpha isdigit islower
isspace isupper items join keys ljust lower lstrip partition pop remove replace reverse rfind rjust rpartition
rsplit rstrip setdefault split splitlines startswith strip update upper values zfill bit_length title capitalize
swapcase casefold center expandtabs removeprefix removesuffix rindex isascii isdecimal isnumeric istitle
isidentifier isprintable translate maketrans format add discard sort encode decode hex from_bytes appendleft
popleft extendleft rotate from_iterable""".split())
NO_NAME = set("register mro elements open input law version_info with_traceback add_note".split())
NO_BINDING = set("""attrgetter breakpoint builtins compile copyright credits delattr dir eval exec exit gc getattr
globals hasattr help id importlib license locals methodcaller os quit setattr super type vars sys
__name__""".split())
NO_WORD = set("""typing typing_extensions enum Enum IntEnum StrEnum Flag IntFlag Generic Protocol ABC ABCMeta
namedtuple NamedTuple TypedDict TYPE_CHECKING abstractmethod""".split())
NO_PART = ("dataclass", "overload", "contextmanager")
NO_FILE = {"test", "tests", "testing", "site", "conftest", "sitecustomize", "usercustomize"}
NO_ATTRIBUTE = set("""items keys values pop update append clear extend insert remove reverse setdefault sort args
encode decode hex fromhex format format_map mro as_integer_ratio bit_count conjugate from_bytes is_integer
to_bytes""".split())
# The names that values of Python's own have; own methods and attributes may have just a few of them.
OF_VALUES = {name for kind in (str, bytes, int, list, dict, set, tuple) for name in vars(kind)
             if not name.startswith("__")}
FREE_ATTRIBUTES = set("count index title find get join lower upper split strip copy add".split())
FREE_METHODS = set("""add discard append clear copy count endswith extend find get index insert isalnum isalpha
isdigit islower isspace isupper items join keys ljust lower lstrip partition pop remove replace reverse rfind rjust
rpartition rsplit rstrip setdefault split splitlines startswith strip update upper values zfill bit_length""".split())
STATEMENTS = (
    ast.Assign, ast.AugAssign, ast.AnnAssign, ast.If, ast.While, ast.For, ast.Return, ast.Break, ast.Continue,
    ast.Pass, ast.Raise, ast.Assert, ast.Delete, ast.Nonlocal, ast.Global, ast.Match, ast.With, ast.Try, ast.Expr,
    ast.FunctionDef, ast.ClassDef, ast.Import, ast.ImportFrom)
COMPREHENSIONS = (ast.ListComp, ast.SetComp, ast.DictComp, ast.GeneratorExp)
TAKES_GENERATOR = {"list", "tuple", "dict", "sorted", "sum", "min", "max", "any", "all", "join"}
ITERATES = TAKES_GENERATOR | {"enumerate", "zip", "bytes"}
TAKES_WALKER = {"product", "combinations", "permutations"}
KEPT_ONCE = {"list", "tuple", "sorted", "sum", "min", "max", "any", "all"}


class Source:
    """A file of the package: its name, its text, its lines and its tree with parents."""

    def __init__(self, name, text):
        self.name = name
        self.text = text
        self.lines = text.split("\n")
        self.tree = ast.parse(text)
        self.all_nodes = list(ast.walk(self.tree))
        self.parent = {}
        for node in self.all_nodes:
            for child in ast.iter_child_nodes(node):
                self.parent[child] = node
        self.methods = {part.name for node in self.classes() for part in node.body if isinstance(part, ast.FunctionDef)}
        self.stored = {node.attr for node in self.nodes(ast.Attribute) if isinstance(node.ctx, ast.Store)}

    def told(self, rule, node, words):
        return f"{rule} {self.name}:{getattr(node, 'lineno', node)}: {words}"

    def functions(self):
        return self.nodes(ast.FunctionDef)

    def classes(self):
        return self.nodes(ast.ClassDef)

    def nodes(self, *kinds):
        return [node for node in self.all_nodes if isinstance(node, kinds)]

    def in_function(self, node):
        while node in self.parent:
            node = self.parent[node]
            if isinstance(node, (ast.FunctionDef, ast.Lambda)):
                return True
        return False


def read_package(folder):
    """The sources of all files of the package."""
    sources = []
    for name in sorted(os.listdir(folder)):
        if name.endswith(".py"):
            with open(os.path.join(folder, name), encoding="utf-8", newline="") as held:
                sources.append(Source(name, held.read()))
    return sources


def folder_faults(folder):
    """L1 and L14: what lies in the folder of the package."""
    told = []
    names = [name for name in sorted(os.listdir(folder)) if name != "__pycache__"]
    if "__init__.py" not in names:
        told.append("L14 no __init__.py")
    if len(names) > 100:
        told.append("L14 more than 100 files")
    for name in names:
        stem = name[:-3]
        if not re.fullmatch(r"[a-z_][a-z0-9_]*\.py", name) or not os.path.isfile(os.path.join(folder, name)):
            told.append(f"L1 {name} is no plain file of Python")
        if stem in NO_FILE or stem.startswith(("law_", "test_")) or stem in NO_NAME | NO_WORD | {"type"}:
            told.append(f"L14 {name} has a barred name")
        if stem in ALL_BUILTINS:
            told.append(f"L14 {name} has the name of a builtin")
        if stem in LIBRARY:
            told.append(f"L2 {name} has the name of a library module")
    return told


def sign_faults(source):
    """L10, L14: the size of the file and of its functions, its characters."""
    told = []
    if len(source.lines) > 400 or (len(source.lines) == 400 and source.lines[-1]):
        told.append(source.told("L10", len(source.lines), "a file has at most 399 lines"))
    for at, line in enumerate(source.lines, 1):
        if len(line) > 120:
            told.append(source.told("L10", at, "a line has at most 120 characters"))
        if not all(" " <= sign <= "~" for sign in line):
            told.append(source.told("L14", at, "a character that is no plain one"))
    for node in source.functions():
        if node.end_lineno - node.lineno + 1 > 40:
            told.append(source.told("L10", node, "a function has at most 40 lines"))
    return told


def import_faults(source, sources):
    """L2, L16: what is imported, where, and that the file defines it; no name is bound twice (L15)."""
    told = []
    by_name = {f"{PACKAGE}.{other.name[:-3]}": other for other in sources}
    body = [node for node in source.tree.body if not is_docstring(node)]
    seen_other = False
    for node in body:
        if not isinstance(node, (ast.Import, ast.ImportFrom)):
            seen_other = True
        elif seen_other:
            told.append(source.told("L2", node, "an import behind other statements"))
    for node in source.nodes(ast.Import, ast.ImportFrom):
        if source.parent[node] is not source.tree:
            told.append(source.told("L2", node, "an import that is not at the top"))
        if isinstance(node, ast.Import):
            told.append(source.told("L2", node, "import of a module as a name"))
            continue
        names = {alias.name for alias in node.names}
        if node.level or "*" in names or any(alias.asname for alias in node.names):
            told.append(source.told("L2", node, "a dot, a star or an `as`"))
        elif node.module in LIBRARY:
            if not names <= LIBRARY[node.module]:
                told.append(source.told("L2", node, "a word of the library that is not listed"))
        elif node.module in by_name:
            for name in sorted(names - module_names(by_name[node.module])):
                told.append(source.told("L16", node, f"{name} is not defined in {node.module}"))
        elif node.module != "__future__" or names != {"annotations"}:
            told.append(source.told("L2", node, f"import from {node.module}"))
    return told


def unused_imports(source):
    """No rule, but of no use either: imported names that the file does not read."""
    read = {node.id for node in source.nodes(ast.Name)}
    return [source.told("unused", node, alias.name) for node in source.nodes(ast.ImportFrom)
            for alias in node.names if alias.name not in read and node.module != "__future__"]


def is_docstring(node):
    return isinstance(node, ast.Expr) and isinstance(node.value, ast.Constant) and isinstance(node.value.value, str)


def module_names(source):
    """The names that a file defines at module level, imports left out."""
    names = set()
    for node in source.tree.body:
        if isinstance(node, (ast.FunctionDef, ast.ClassDef)):
            names.add(node.name)
        if isinstance(node, ast.Assign):
            names.update(target.id for target in node.targets if isinstance(target, ast.Name))
    return names


def circle_faults(sources):
    """L16: no two files import from each other, neither directly nor through others."""
    told = []
    needs = {}
    for source in sources:
        modules = [node.module for node in source.nodes(ast.ImportFrom) if node.module]
        needs[source.name] = {module.split(".")[1] + ".py" for module in modules if module.startswith(PACKAGE + ".")}
        if modules and source.name != "__init__.py":
            needs[source.name].add("__init__.py")
    for name in needs:
        reached, todo = set(), [name]
        while todo:
            for other in needs.get(todo.pop(), ()):
                if other not in reached:
                    reached.add(other)
                    todo.append(other)
        if name in reached:
            told.append(f"L16 {name} imports from itself in a circle")
    return told


def level_faults(source):
    """L3, L15: what stands at module level."""
    told = []
    bound = []
    for node in source.tree.body:
        if isinstance(node, (ast.FunctionDef, ast.ClassDef)):
            bound.append(node.name)
        elif isinstance(node, ast.ImportFrom):
            bound.extend(alias.name for alias in node.names)
        elif isinstance(node, ast.Assign):
            if len(node.targets) != 1 or not isinstance(node.targets[0], ast.Name):
                told.append(source.told("L3", node, "an assignment to several names"))
            else:
                bound.append(node.targets[0].id)
            for part in ast.walk(node.value):
                if isinstance(part, (ast.Call, ast.Lambda, ast.Set) + COMPREHENSIONS):
                    told.append(source.told("L3", node, "no plain value"))
        elif not is_docstring(node):
            told.append(source.told("L3", node, "a statement that does not belong here"))
    for name in sorted({name for name in bound if bound.count(name) > 1}):
        told.append(source.told("L15", 1, f"{name} is bound twice"))
    return told


def class_faults(source, sources):
    """L4, L5, L18: functions and classes."""
    told = []
    own_errors = {node.name for other in sources for node in other.classes()}
    for node in source.functions():
        for mark in node.decorator_list:
            word = mark.id if isinstance(mark, ast.Name) else getattr(mark, "attr", "")
            if word not in {"property", "staticmethod", "classmethod", "setter"}:
                told.append(source.told("L4", node, "a decorator"))
        for value in node.args.defaults + [value for value in node.args.kw_defaults if value]:
            if any(isinstance(part, (ast.Call, ast.List, ast.Dict, ast.Set)) for part in ast.walk(value)):
                told.append(source.told("L4", node, "a default value that is not plain"))
        inside = isinstance(source.parent[node], ast.ClassDef)
        if node.name.startswith("__") and not (inside and node.name in DUNDERS):
            told.append(source.told("L5", node, f"a method {node.name}"))
    for node in source.classes():
        if source.parent[node] is not source.tree:
            told.append(source.told("L15", node, "a class that is not at module level"))
        if node.decorator_list or node.keywords:
            told.append(source.told("L5", node, "a decorator or keyword of a class"))
        for base in node.bases:
            if not isinstance(base, ast.Name) or base.id not in own_errors | {"ValueError", "Exception"}:
                told.append(source.told("L5", node, "a base class of another kind"))
        if not node.name[0].isalpha():
            told.append(source.told("L12", node, "a class's name begins with a letter"))
        for part in node.body:
            if not isinstance(part, (ast.FunctionDef, ast.Assign)) and not is_docstring(part):
                told.append(source.told("L5", part, "a statement in a class"))
        names = [part.name for part in node.body if isinstance(part, ast.FunctionDef) and not part.decorator_list]
        if len(names) != len(set(names)):
            told.append(source.told("L18", node, "a method is defined twice"))
    return told


def statement_faults(source):
    """L6, L7, L19, L20, L27: statements and expressions."""
    told = []
    for node in source.all_nodes:
        if isinstance(node, ast.stmt) and not isinstance(node, STATEMENTS):
            told.append(source.told("L6", node, type(node).__name__))
        if isinstance(node, (ast.Div, ast.MatMult)) or (
                isinstance(node, ast.Constant) and isinstance(node.value, (float, complex))):
            told.append(source.told("L7", source.parent[node], "a float, / or @"))
        if isinstance(node, (ast.Await, ast.YieldFrom)) and not source.in_function(node):
            told.append(source.told("L6", node, "await or yield"))
        if isinstance(node, COMPREHENSIONS):
            if not source.in_function(node) or len(node.generators) > 6:
                told.append(source.told("L7", node, "a comprehension here, or one too long"))
            if sum(len(part.ifs) for part in node.generators) > 12:
                told.append(source.told("L7", node, "a comprehension with too many ifs"))
        if isinstance(node, ast.Compare):
            sides = [node.left] + node.comparators
            for sign, side in zip(node.ops, sides[1:]):
                if isinstance(sign, (ast.Is, ast.IsNot)) and not any(
                        isinstance(part, ast.Constant) and part.value in (None, True, False)
                        for part in (side, node.left)) and not is_kind_test(node):
                    told.append(source.told("L20", node, "`is` with something else"))
        if isinstance(node, ast.BinOp) and isinstance(node.op, ast.Pow) and not is_fair_exponent(source, node):
            told.append(source.told("L27", node, "an exponent that is no literal"))
        if isinstance(node, ast.ExceptHandler) and (node.type is None or any(
                isinstance(part, ast.Name) and part.id in {"Exception", "TypeError", "ArithmeticError",
                                                           "OverflowError", "RuntimeError", "AttributeError"}
                for part in ast.walk(node.type))):
            told.append(source.told("L19", node, "a handler of this"))
        if isinstance(node, ast.Raise) and node.exc is not None and not (
                isinstance(node.exc, ast.Call) and isinstance(node.exc.func, ast.Name)):
            told.append(source.told("L19", node, "an error that is not created on the spot"))
    return told


def is_kind_test(node):
    return isinstance(node.left, ast.Call) and isinstance(node.left.func, ast.Name) and node.left.func.id == "type"


def is_fair_exponent(source, node):
    """Whether the exponent is a literal from 0 to 64, or something that has to be looked at by eye."""
    if isinstance(node.right, ast.Constant):
        return isinstance(node.right.value, int) and 0 <= node.right.value <= 64
    if isinstance(node.right, ast.Name):
        return any(isinstance(part, (ast.For, ast.comprehension)) and isinstance(part.target, ast.Name)
                   and part.target.id == node.right.id and is_literal_range(part.iter)
                   for part in ast.walk(source.tree))
    return isinstance(node.right, ast.BinOp) and isinstance(node.right.op, ast.Mod)


def is_literal_range(node):
    return isinstance(node, ast.Call) and isinstance(node.func, ast.Name) and node.func.id == "range" and all(
        isinstance(part, ast.Constant) and 0 <= part.value <= 64 for part in node.args)


def call_faults(source, sources):
    """L7, L8, L22, L23, L24, L25: builtins and methods, and how they are called."""
    told = []
    methods = {name for other in sources for name in other.methods}
    known = METHODS | methods | attribute_names(sources)
    for node in source.nodes(ast.Name):
        if node.id in ALL_BUILTINS and node.id not in BUILTINS and isinstance(node.ctx, ast.Load):
            told.append(source.told("L8", node, f"the builtin {node.id}"))
    for node in source.nodes(ast.Call):
        if isinstance(node.func, ast.Attribute):
            if node.func.attr not in known:
                told.append(source.told("L25", node, f"the method {node.func.attr}"))
        if isinstance(node.func, ast.Name):
            word = node.func.id
            allowed = {"sorted": {"key", "reverse"}, "min": {"key", "default"}, "max": {"key", "default"},
                       "sum": {"start"}, "enumerate": {"start"}, "zip": {"strict"}}
            if word in ALL_BUILTINS and {part.arg for part in node.keywords} - allowed.get(word, set()):
                told.append(source.told("L22", node, f"a keyword of {word}"))
    has_equal = "__eq__" in methods
    for node in source.nodes(ast.GeneratorExp):
        parent = source.parent[node]
        word = parent.func.id if isinstance(parent, ast.Call) and isinstance(parent.func, ast.Name) else (
            parent.func.attr if isinstance(parent, ast.Call) and isinstance(parent.func, ast.Attribute) else "")
        if word not in TAKES_GENERATOR or (has_equal and word in {"any", "all", "min", "max", "sum", "sorted"}):
            told.append(source.told("L7", node, "a generator expression here"))
    for node in source.nodes(ast.Set, ast.SetComp):
        if not isinstance(source.parent[node], (ast.Compare, ast.Assign, ast.Call, ast.BinOp)):
            told.append(source.told("L24", node, "a set here"))
    return told


def attribute_names(sources):
    """All attributes that some method of the package assigns."""
    return {name for source in sources for name in source.stored}


def walker_of(node):
    """The word of a call that gives a range, a zip, a view of a dict or the like; "" for any other node."""
    if isinstance(node, ast.Call) and isinstance(node.func, ast.Name):
        return node.func.id if node.func.id in {"range", "zip", "enumerate", "reversed"} else ""
    if isinstance(node, ast.Call) and isinstance(node.func, ast.Attribute) and not node.args:
        return node.func.attr if node.func.attr in {"items", "keys", "values"} else ""
    return ""


def is_iterated(source, node, word, kept):
    """Whether what gives a range and the like, or (kept) the variable that keeps it, stands where it is iterated."""
    parent = source.parent[node]
    if isinstance(parent, (ast.For, ast.comprehension)):
        return parent.iter is node
    if isinstance(parent, ast.Compare):
        return word in {"range", "keys"} and isinstance(parent.ops[0], (ast.In, ast.NotIn)) and parent.left is not node
    if isinstance(parent, ast.Subscript):
        return kept and word == "range" and parent.value is node
    if not isinstance(parent, ast.Call) or node not in parent.args:
        return False
    if isinstance(parent.func, ast.Attribute):
        return not kept and parent.func.attr == "join" and isinstance(parent.func.value, ast.Constant)
    called = parent.func.id if isinstance(parent.func, ast.Name) else ""
    if word == "range" and called in {"len", "reversed", "enumerate", "zip"}:
        return True
    if called in {"min", "max"} and len(parent.args) > 1:
        return False
    if word in {"items", "keys", "values"} and called == "len":
        return True
    return called in (KEPT_ONCE if kept else ITERATES | TAKES_WALKER)


def function_around(source, node):
    """The function, or lambda, in which a node stands; None at module level."""
    while node in source.parent:
        node = source.parent[node]
        if isinstance(node, (ast.FunctionDef, ast.Lambda)):
            return node
    return None


def is_kept_fairly(source, node, word):
    """Whether a plain local variable, assigned just once, keeps a range and the like, and is only iterated."""
    parent = source.parent[node]
    around = function_around(source, node)
    if not isinstance(parent, ast.Assign) or around is None:
        return False
    if len(parent.targets) != 1 or not isinstance(parent.targets[0], ast.Name):
        return False
    name = parent.targets[0].id
    if name in {part.arg for part in ast.walk(around.args) if isinstance(part, ast.arg)}:
        return False
    found = [part for part in ast.walk(around) if isinstance(part, ast.Name) and part.id == name]
    if sum(not isinstance(part.ctx, ast.Load) for part in found) != 1:
        return False
    reads = [part for part in found if isinstance(part.ctx, ast.Load)]
    if word in {"zip", "enumerate", "reversed"} and len(reads) > 1:
        return False
    return all(function_around(source, part) is around and is_iterated(source, part, word, True) for part in reads)


def walker_faults(source):
    """L23: ranges, zips, views of dicts and the like are iterated on the spot, or kept as the rule lets it."""
    told = []
    for node in source.nodes(ast.Call):
        word = walker_of(node)
        if word and not is_iterated(source, node, word, False) and not is_kept_fairly(source, node, word):
            told.append(source.told("L23", node, f"{word} is neither iterated on the spot nor fairly kept"))
    return told


def name_faults(source):
    """L12, L15, L17, L26, L27: names and strings."""
    told = []
    taken = {node.name for node in source.classes()}
    for node in source.nodes(ast.ImportFrom):
        taken.update(alias.name for alias in node.names)
    for node, name, kind in bound_names(source):
        if not re.fullmatch(r"_|_?[A-Za-z][A-Za-z0-9_]*", name) and name not in DUNDERS:
            told.append(source.told("L12", node, f"the name {name}"))
        if name in NO_NAME or (kind != "attribute" and name in NO_BINDING):
            told.append(source.told("L17", node, f"the name {name}"))
        if kind != "attribute" and kind != "method" and name in ALL_BUILTINS:
            told.append(source.told("L15", node, f"{name} is the name of a builtin"))
        if kind == "local" and name in taken:
            told.append(source.told("L15", node, f"{name} is a class or an import of this file"))
        if kind == "attribute" and name in NO_ATTRIBUTE:
            told.append(source.told("L26", node, f"an attribute {name}"))
    code = without_comments(source)
    for word in re.findall(r"[A-Za-z_][A-Za-z0-9_]*", code):
        if word in NO_WORD or any(part in word for part in NO_PART):
            told.append(source.told("L17", 1, f"the word {word}"))
    if re.search(r"_wall\b|_WallAttr", source.text):
        told.append(source.told("L12", 1, "a barred word"))
    if re.search(r"\btype\b(?!\()", code):
        told.append(source.told("L17", 1, "the word type"))
    for node in source.nodes(ast.Constant):
        if isinstance(node.value, str) and not is_doc(source, node):
            if "%" in node.value:
                told.append(source.told("L27", node, "the character % in a string"))
            if node.value.endswith(("._", ".__")) or re.fullmatch(r"__.*__", node.value):
                told.append(source.told("L27", node, "a string with underscores at its end"))
    return told


def is_doc(source, node):
    return is_docstring(source.parent[node])


def bound_names(source):
    """All (node, name, kind) that a file binds; the kind is level, local, method or attribute."""
    told = []
    for node in source.all_nodes:
        if isinstance(node, ast.FunctionDef):
            inside = isinstance(source.parent[node], ast.ClassDef)
            level = source.parent[node] is source.tree
            told.append((node, node.name, "method" if inside else "level" if level else "local"))
        elif isinstance(node, ast.ClassDef):
            told.append((node, node.name, "level"))
        elif isinstance(node, ast.arg):
            told.append((node, node.arg, "local"))
        elif isinstance(node, ast.Name) and isinstance(node.ctx, (ast.Store, ast.Del)):
            told.append((node, node.id, "local" if source.in_function(node) else "level"))
        elif isinstance(node, ast.Attribute) and isinstance(node.ctx, ast.Store):
            told.append((node, node.attr, "attribute"))
        elif isinstance(node, ast.ExceptHandler) and node.name:
            told.append((node, node.name, "local"))
    return told


def without_comments(source):
    """The text of the code, written anew without comments and docstrings."""
    tree = ast.parse(source.text)
    for node in ast.walk(tree):
        if isinstance(node, (ast.Module, ast.ClassDef, ast.FunctionDef)) and node.body and is_docstring(node.body[0]):
            node.body[0] = ast.Pass()
    return ast.unparse(tree)


def own_name_faults(source):
    """L26: methods and attributes that have the names of those of Python's own values."""
    told = []
    for node in source.nodes(ast.Attribute):
        if isinstance(node.ctx, ast.Store) and node.attr in OF_VALUES - FREE_ATTRIBUTES:
            told.append(source.told("L26", node, f"an attribute {node.attr}"))
    for node in source.classes():
        for part in node.body:
            if isinstance(part, ast.FunctionDef) and part.name in OF_VALUES - FREE_METHODS:
                told.append(source.told("L26", part, f"a method {part.name}"))
    return told


def stored_names(node):
    """The names that a node assigns, but for those of comprehensions and functions within it."""
    found = set()
    for child in ast.iter_child_nodes(node):
        if isinstance(child, COMPREHENSIONS + (ast.FunctionDef, ast.Lambda)):
            continue
        if isinstance(child, ast.Name) and isinstance(child.ctx, ast.Store):
            found.add(child.id)
        found |= stored_names(child)
    return found


def target_faults(source):
    """L7, L23: what stands behind a star, targets of loops, the variables of comprehensions within others."""
    told = []
    for node in source.nodes(ast.Call):
        for part in node.args:
            if isinstance(part, ast.Starred) and not isinstance(part.value, (ast.Name, ast.Attribute, ast.List, ast.Tuple)):
                told.append(source.told("L7", node, "what stands behind a star has no name"))
    for node in source.nodes(ast.For, ast.comprehension):
        for part in getattr(node.target, "elts", []):
            if any(isinstance(more, ast.Tuple) for more in getattr(part, "elts", [])):
                told.append(source.told("L23", node.target, "names in parentheses within parentheses"))
    for node in source.nodes(*COMPREHENSIONS):
        mine = {part.id for each in node.generators for part in ast.walk(each.target) if isinstance(part, ast.Name)}
        outer, around, within = node, set(), False
        while outer in source.parent and not isinstance(outer, ast.FunctionDef):
            outer = source.parent[outer]
            if isinstance(outer, COMPREHENSIONS):
                within = True
                around |= {part.id for each in outer.generators for part in ast.walk(each.target)
                           if isinstance(part, ast.Name)}
        if isinstance(outer, ast.FunctionDef):
            around |= stored_names(outer) | {part.arg for part in outer.args.args}
        if within and mine & around - {"_"}:
            told.append(source.told("L7", node, "a name of a comprehension within another one"))
    return told


def level_tables(source):
    """The names at module level to which lists and dicts are assigned."""
    return {node.targets[0].id for node in source.tree.body if isinstance(node, ast.Assign)
            and isinstance(node.targets[0], ast.Name) and isinstance(node.value, (ast.List, ast.Dict))}


def table_faults(source, sources):
    """L15: lists and dicts at module level are only read: by an index, by iteration, by `in`, or as a copy."""
    told = []
    by_name = {f"{PACKAGE}.{other.name[:-3]}": other for other in sources}
    tables = set(level_tables(source))
    for node in source.nodes(ast.ImportFrom):
        if node.module in by_name:
            tables |= {alias.name for alias in node.names} & level_tables(by_name[node.module])
    for node in source.nodes(ast.Name):
        if node.id in tables and isinstance(node.ctx, ast.Load) and not is_only_read(source, node):
            told.append(source.told("L15", node, f"{node.id} is passed on or kept, and not as a copy"))
    return told


def is_only_read(source, node):
    """Whether a list or dict stands where it is read, and neither changed nor passed on."""
    parent = source.parent[node]
    if isinstance(parent, (ast.For, ast.comprehension)):
        return parent.iter is node
    if isinstance(parent, ast.Subscript):
        return parent.value is node and isinstance(parent.ctx, ast.Load)
    if isinstance(parent, ast.Compare):
        return True
    if isinstance(parent, ast.Attribute):
        return parent.attr in {"get", "items", "keys", "values", "index", "count"}
    if isinstance(parent, ast.Call) and isinstance(parent.func, ast.Name) and node in parent.args:
        return parent.func.id in KEPT_ONCE | {"len", "dict", "enumerate", "reversed", "zip"}
    return False


def source_faults(source, sources):
    """All that the rules have against one file."""
    return (sign_faults(source) + import_faults(source, sources) + level_faults(source)
            + class_faults(source, sources) + statement_faults(source) + call_faults(source, sources)
            + walker_faults(source) + table_faults(source, sources)
            + name_faults(source) + own_name_faults(source) + target_faults(source))


def package_faults(folder):
    """All that the rules have against the package."""
    sources = read_package(folder)
    told = folder_faults(folder) + circle_faults(sources)
    for source in sources:
        told.extend(source_faults(source, sources))
    return told
