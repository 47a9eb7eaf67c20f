"""Checks the package against rules of LANGUAGE.md, as far as a small script can see them.

Usage: python3 .ci/language.py FOLDER. It prints a line for each fault, with the number of the rule, and ends with 1
if there is one. It knows less than the rules: what it says nothing about may still be wrong.
"""

import ast
import builtins
import os
import re
import sys

BUILTINS = set(
    "len range enumerate zip min max sum abs sorted reversed int str bool bytes list tuple dict set frozenset isinstance"
    " ord repr any all divmod iter next map Exception ValueError TypeError KeyError IndexError LookupError"
    " ZeroDivisionError ArithmeticError OverflowError RuntimeError NotImplementedError StopIteration NotImplemented"
    .split())
METHODS = set(
    "append clear copy count endswith extend find get index insert isalnum isalpha isdigit islower isspace isupper items"
    " join keys ljust lower lstrip partition pop remove replace reverse rfind rjust rpartition rsplit rstrip setdefault"
    " split splitlines startswith strip update upper values zfill bit_length title capitalize swapcase casefold center"
    " expandtabs removeprefix removesuffix rindex isascii isdecimal isnumeric istitle isidentifier isprintable add"
    " discard appendleft popleft".split())
CHANGING = set(
    "append clear extend insert pop remove reverse setdefault update sort add discard appendleft popleft".split())
OPERATORS = set(
    "__lt__ __le__ __gt__ __ge__ __ne__ __add__ __sub__ __mul__ __floordiv__ __mod__ __pow__ __and__ __or__ __xor__"
    " __lshift__ __rshift__ __radd__ __rsub__ __rmul__ __contains__ __getitem__ __neg__ __pos__ __invert__ __abs__"
    " __bool__".split())
IN_PLACE = set("__iadd__ __isub__ __imul__ __iand__ __ior__ __ixor__ __setitem__".split())
PLAIN = set("__init__ __eq__ __repr__ __str__ __len__ __enter__ __exit__ __call__ __iter__".split())
NOWHERE = set("register mro elements open input law version_info with_traceback add_note".split())
NO_VARIABLES = set(
    "attrgetter breakpoint builtins compile copyright credits delattr dir eval exec exit gc getattr globals hasattr help"
    " id importlib license locals methodcaller os quit setattr super type vars sys".split())
NO_ATTRIBUTES = set(
    "items keys values pop update append clear extend insert remove reverse setdefault sort args encode decode hex"
    " fromhex format format_map mro as_integer_ratio bit_count conjugate from_bytes is_integer to_bytes".split())
NO_WORDS = re.compile(
    r"\b(type|typing|typing_extensions|enum|Enum|IntEnum|StrEnum|Flag|IntFlag|Generic|Protocol|ABC|ABCMeta|namedtuple"
    r"|NamedTuple|TypedDict|TYPE_CHECKING|abstractmethod)\b|dataclass|overload|contextmanager|_wall\b|_WallAttr")
LIBRARY = {
    "heapq": {"heappush", "heappop", "heapify", "heapreplace", "heappushpop"},
    "math": {"gcd", "lcm", "isqrt", "comb", "perm", "factorial"},
    "itertools": {"product", "combinations", "permutations", "chain", "accumulate", "pairwise", "islice", "zip_longest"},
    "collections": {"defaultdict", "deque"},
}
STATEMENTS = (
    ast.Assign, ast.AugAssign, ast.If, ast.While, ast.For, ast.Return, ast.Break, ast.Continue, ast.Pass, ast.Raise,
    ast.Assert, ast.Delete, ast.Nonlocal, ast.Match, ast.With, ast.Try, ast.Expr, ast.FunctionDef)
AT_ONCE = {"zip", "enumerate", "reversed", "range", "items", "keys", "values"}
TAKING = {"list", "tuple", "dict", "sorted", "sum", "any", "all", "enumerate", "zip", "min", "max", "len"}
FOLDED = (ast.ListComp, ast.DictComp, ast.SetComp, ast.GeneratorExp)


def name_of(node):
    """The name that a call calls."""
    if isinstance(node, ast.Call):
        node = node.func
    if isinstance(node, ast.Name):
        return node.id
    return node.attr if isinstance(node, ast.Attribute) else None


def functions_of(tree):
    return [node for node in ast.walk(tree) if isinstance(node, ast.FunctionDef)]


def strings_without_docs(tree):
    """The strings of a file that are no docstrings."""
    docs = set()
    for node in ast.walk(tree):
        if isinstance(node, (ast.Module, ast.ClassDef, ast.FunctionDef)) and ast.get_docstring(node) is not None:
            docs.add(id(node.body[0].value))
    found = [node for node in ast.walk(tree) if isinstance(node, ast.Constant) and isinstance(node.value, str)]
    return [node for node in found if id(node) not in docs]


class Package:
    """All files of the package, and the faults that were found."""

    def __init__(self, folder):
        self.folder = folder
        self.name = os.path.basename(os.path.abspath(folder))
        self.faults = []
        self.trees = {}
        self.texts = {}
        self.read()
        every = [node for tree in self.trees.values() for node in ast.walk(tree)]
        self.classes = {node.name: node for node in every if isinstance(node, ast.ClassDef)}
        self.functions = [node for node in every if isinstance(node, ast.FunctionDef)]
        self.methods = {
            node.name for made in self.classes.values() for node in made.body if isinstance(node, ast.FunctionDef)}
        self.attributes = {
            node.attr for node in every if isinstance(node, ast.Attribute) and isinstance(node.ctx, ast.Store)}
        self.generators = {
            node.name for node in self.functions
            if any(isinstance(inner, (ast.Yield, ast.YieldFrom)) for inner in ast.walk(node))}

    def fault(self, rule, path, line, text):
        self.faults.append(f"{path}:{line}: {rule}: {text}")

    def read(self):
        for root, folders, files in os.walk(self.folder):
            folders[:] = [name for name in folders if name != "__pycache__"]
            for name in sorted(files):
                path = os.path.join(root, name)
                if not re.fullmatch(r"[a-z][a-z0-9_]*\.py|__init__\.py|__main__\.py", name):
                    self.fault("L1", path, 0, "not a plain .py file")
                    continue
                with open(path, encoding="utf-8", newline="") as file:
                    text = file.read()
                self.texts[path] = text
                self.trees[path] = ast.parse(text)
        if len(self.trees) > 100:
            self.fault("L14", self.folder, 0, "more than 100 files")

    def check(self):
        for path, tree in sorted(self.trees.items()):
            self.check_text(path, self.texts[path])
            self.check_module(path, tree)
            self.check_strings(path, tree)
            for node in ast.walk(tree):
                self.check_node(path, node)
            for node in functions_of(tree):
                self.check_function(path, node)
                self.check_plain_methods(path, node)
            self.check_parents(path, tree)
            self.check_names(path, tree)
        for made in self.classes.values():
            self.check_class(made)
        self.check_imports()
        self.check_calls()
        self.check_recursion()
        self.check_properties()
        return self.faults

    def check_text(self, path, text):
        rows = text.split("\n")
        if len(rows) - 1 > 399:
            self.fault("L10", path, len(rows), "more than 399 lines")
        for line, row in enumerate(rows, start=1):
            if len(row) > 120:
                self.fault("L10", path, line, "more than 120 characters")
            if re.search(r"[^ -~]", row):
                self.fault("L14", path, line, "a character beyond space to ~")
        stem = os.path.basename(path)[:-3]
        if stem in ("test", "tests", "testing", "site", "conftest", "sitecustomize", "usercustomize") or \
                stem.startswith(("law_", "test_")) or stem in dir(builtins) or stem in NO_VARIABLES | NOWHERE:
            self.fault("L14", path, 0, "a file of this name")

    def check_module(self, path, tree):
        bound = []
        for at, node in enumerate(tree.body):
            if isinstance(node, ast.Expr) and isinstance(node.value, ast.Constant) and at == 0:
                continue
            if isinstance(node, ast.ImportFrom):
                bound.extend(alias.name for alias in node.names)
            elif isinstance(node, (ast.FunctionDef, ast.ClassDef)):
                bound.append(node.name)
            elif isinstance(node, ast.Assign) and len(node.targets) == 1 and isinstance(node.targets[0], ast.Name):
                bound.append(node.targets[0].id)
            else:
                self.fault("L3", path, node.lineno, "not a statement for module level")
        for name in set(bound):
            if bound.count(name) > 1:
                self.fault("L15", path, 0, f"{name} is bound twice")

    def check_strings(self, path, tree):
        for node in strings_without_docs(tree):
            value = node.value
            if "%" in value or re.fullmatch(r"__.*__", value) and value != "__main__" or value.endswith(("._", ".__")):
                self.fault("L27", path, node.lineno, "a string of this kind")
            if NO_WORDS.search(value.replace("type", "")):
                self.fault("L17", path, node.lineno, "a barred word in a string")
        for node in ast.walk(tree):
            names = [getattr(node, field, None) for field in ("id", "attr", "arg", "name")]
            for name in names:
                if isinstance(name, str) and NO_WORDS.search(name) and name_of(node) != "type":
                    self.fault("L17", path, getattr(node, "lineno", 0), f"the name {name}")

    def check_node(self, path, node):
        line = getattr(node, "lineno", 0)
        if isinstance(node, ast.stmt) and not isinstance(node, STATEMENTS + (ast.ClassDef, ast.ImportFrom)):
            self.fault("L6", path, line, f"the statement {type(node).__name__}")
        if isinstance(node, (ast.AnnAssign,)) or getattr(node, "annotation", None) or getattr(node, "returns", None):
            self.fault("L21", path, line, "an annotation")
        if isinstance(node, ast.Constant) and isinstance(node.value, (float, complex, type(...))):
            self.fault("L7", path, line, "a float")
        if isinstance(node, (ast.Div, ast.MatMult)):
            self.fault("L7", path, line, "the sign / or @")
        if isinstance(node, ast.BinOp) and isinstance(node.op, ast.Pow):
            power = node.right.value if isinstance(node.right, ast.Constant) else None
            if not isinstance(power, int) or not 0 <= power <= 64:
                self.fault("L27", path, line, "an exponent that is no literal from 0 to 64")
        if isinstance(node, ast.Compare):
            for sign, right in zip(node.ops, node.comparators):
                plain = isinstance(right, ast.Constant) and (right.value is None or right.value in (True, False))
                if isinstance(sign, (ast.Is, ast.IsNot)) and not plain:
                    self.fault("L20", path, line, "is beside another value than None, True, False")
        if isinstance(node, ast.Raise) and node.exc is not None:
            if not isinstance(node.exc, ast.Call) or not isinstance(node.exc.func, ast.Name):
                self.fault("L19", path, line, "an error that is not created on the spot")
        if isinstance(node, ast.ExceptHandler):
            caught = node.type.elts if isinstance(node.type, ast.Tuple) else [node.type]
            for kind in caught:
                if name_of(kind) not in set(self.classes) | {"KeyError", "ZeroDivisionError"}:
                    self.fault("L19", path, line, f"look at the catching of {name_of(kind)}")
        if isinstance(node, ast.Call):
            self.check_call(path, node)
        if isinstance(node, ast.Attribute):
            self.check_attribute(path, node)

    def check_call(self, path, node):
        name = name_of(node)
        for inner in node.args:
            if isinstance(inner, ast.Starred):
                plain = isinstance(inner.value, (ast.Name, ast.List, ast.Tuple, ast.Constant))
                if not (plain or isinstance(inner.value, ast.Attribute) and isinstance(inner.value.value, ast.Name)):
                    self.fault("L7", path, node.lineno, "a star over something else than a name")
        if isinstance(node.func, ast.Attribute) and name not in METHODS | self.methods | self.attributes:
            if not (name in ("sort", "__init__", "format", "translate", "encode", "decode")):
                self.fault("L25", path, node.lineno, f"the method {name}")
        if isinstance(node.func, ast.Name) and name in dir(builtins):
            allowed = {"sorted": {"key", "reverse"}, "min": {"key", "default"}, "max": {"key", "default"},
                       "sum": {"start"}, "enumerate": {"start"}, "zip": {"strict"}}
            for keyword in node.keywords:
                if keyword.arg not in allowed.get(name, set()):
                    self.fault("L22", path, node.lineno, f"the keyword {keyword.arg} of {name}")
        if isinstance(node.func, ast.Attribute) and node.keywords and name in METHODS:
            self.fault("L25", path, node.lineno, f"a keyword of {name}")
        operators = any(name in self.methods for name in OPERATORS)
        for inner in node.args:
            if isinstance(inner, ast.GeneratorExp) and operators and name not in ("list", "tuple", "dict", "join"):
                self.fault("L7", path, node.lineno, f"a generator expression in {name}")

    def check_attribute(self, path, node):
        if node.attr in NOWHERE:
            self.fault("L17", path, node.lineno, f"the attribute {node.attr}")
        if isinstance(node.ctx, ast.Store) and node.attr in NO_ATTRIBUTES:
            self.fault("L26", path, node.lineno, f"the attribute {node.attr}")
        if node.attr not in self.attributes | self.methods | METHODS | {"sort", "format", "setter"}:
            if not node.attr.startswith("__"):
                self.fault("L18", path, node.lineno, f"nothing assigns {node.attr}")

    def check_function(self, path, node):
        if node.end_lineno - node.lineno + 1 + len(node.decorator_list) > 40:
            self.fault("L10", path, node.lineno, f"{node.name} has more than 40 lines")
        for mark in node.decorator_list:
            if name_of(mark) not in ("property", "classmethod", "staticmethod", "setter"):
                self.fault("L4", path, node.lineno, "a decorator")
        spots = node.args
        for value in spots.defaults + [value for value in spots.kw_defaults if value is not None]:
            if not all(isinstance(inner, (ast.Constant, ast.Tuple, ast.Name, ast.BinOp, ast.UnaryOp, ast.operator,
                                          ast.unaryop, ast.expr_context)) for inner in ast.walk(value)):
                self.fault("L4", path, node.lineno, "a default value that is not plain")
        if node.name == "__init__":
            if any(isinstance(inner, ast.Return) for inner in ast.walk(node)):
                self.fault("L28", path, node.lineno, "__init__ returns")
        if node.name.startswith("__") and node.name not in PLAIN | OPERATORS | IN_PLACE:
            self.fault("L5", path, node.lineno, node.name)
        if node.name in OPERATORS | IN_PLACE and len(spots.args) + len(spots.kwonlyargs) + len(spots.defaults) > 3:
            self.fault("L5", path, node.lineno, f"the parameters of {node.name}")

    def check_plain_methods(self, path, node):
        """What __exit__ does, and that __eq__, __len__ and their kin assign nothing."""
        if node.name in ("__eq__", "__len__", "__repr__", "__str__"):
            for inner in ast.walk(node):
                if isinstance(inner, (ast.Assign, ast.AugAssign, ast.Delete)):
                    self.fault("L28", path, inner.lineno, f"{node.name} assigns")
        if node.name != "__exit__":
            return
        for inner in ast.walk(node):
            if isinstance(inner, ast.stmt) and not isinstance(inner, (ast.Assign, ast.If, ast.Expr, ast.FunctionDef, ast.Pass)):
                self.fault("L6", path, inner.lineno, f"{type(inner).__name__} in __exit__")
            if isinstance(inner, (ast.BinOp, ast.UnaryOp, ast.Subscript, ast.AugAssign)):
                self.fault("L6", path, inner.lineno, "a sign in __exit__")
            if isinstance(inner, ast.Call) and name_of(inner) not in ("append", "clear"):
                self.fault("L6", path, inner.lineno, "a call in __exit__")
            if isinstance(inner, ast.Compare) and not isinstance(inner.ops[0], (ast.Is, ast.IsNot)):
                self.fault("L6", path, inner.lineno, "a comparison in __exit__")
            if isinstance(inner, ast.If) and not all(isinstance(part, ast.Compare) for part in tests_of(inner.test)):
                self.fault("L6", path, inner.lineno, "a test in __exit__ that is none of is None")

    def check_parents(self, path, tree):
        """What stands only in certain places: views, sets, generators."""
        parents = {id(child): node for node in ast.walk(tree) for child in ast.iter_child_nodes(node)}
        for node in ast.walk(tree):
            up = parents.get(id(node))
            looped = isinstance(up, (ast.For, ast.comprehension)) and up.iter is node
            taken = isinstance(up, ast.Call) and up.args and up.args[0] is node and name_of(up) in TAKING
            if isinstance(node, ast.Call) and name_of(node) in AT_ONCE and name_of(node) not in self.attributes:
                membership = isinstance(up, ast.Compare) and isinstance(up.ops[0], (ast.In, ast.NotIn))
                second = isinstance(up, ast.Call) and name_of(up) == "zip"
                back = name_of(up) == "reversed" and name_of(node) == "range"
                if not (looped or taken or membership or second or back):
                    self.fault("L23", path, node.lineno, f"{name_of(node)} is not iterated at once")
            if isinstance(node, ast.Call) and name_of(node) in self.generators:
                if not (looped or taken or isinstance(up, ast.YieldFrom) or name_of(up) == "join"):
                    self.fault("L23", path, node.lineno, f"{name_of(node)} is not iterated at once")
            if isinstance(node, (ast.Set, ast.SetComp)) or isinstance(node, ast.Call) and name_of(node) == "set":
                beside = isinstance(up, ast.Compare) or isinstance(up, ast.BinOp)
                stored = isinstance(up, ast.Assign) and isinstance(up.targets[0], ast.Name)
                if not (beside or stored or isinstance(up, ast.Call) and name_of(up) in ("sorted", "len")):
                    self.fault("L24", path, node.lineno, "a set")
                if looped:
                    self.fault("L24", path, node.lineno, "a set is iterated")

    def check_names(self, path, tree):
        top = {node.name for node in tree.body if isinstance(node, (ast.FunctionDef, ast.ClassDef))}
        imported = {alias.name for node in tree.body if isinstance(node, ast.ImportFrom) for alias in node.names}
        values = {node.targets[0].id for node in tree.body if isinstance(node, ast.Assign)}
        stored = {}
        for node in ast.walk(tree):
            if isinstance(node, ast.Name) and isinstance(node.ctx, (ast.Store, ast.Del)):
                stored.setdefault(node.id, node.lineno)
            elif isinstance(node, ast.arg):
                stored.setdefault(node.arg, node.lineno)
            elif isinstance(node, ast.FunctionDef) and node.name not in self.methods:
                stored.setdefault(node.name, node.lineno)
            elif isinstance(node, ast.ExceptHandler) and node.name:
                stored.setdefault(node.name, node.lineno)
        for name, line in sorted(stored.items()):
            if name in dir(builtins) or name in NO_VARIABLES | NOWHERE:
                self.fault("L15", path, line, f"the name {name}")
            if name in imported or name in self.classes and name in top:
                self.fault("L15", path, line, f"{name} is an import or a class, too")
            if not re.fullmatch(r"_|_?[A-Za-z][A-Za-z0-9_]*", name) or \
                    re.match(r"_(wall|pe_|dcw_|enum_|cm_|twin_re_|lay_|law_|stub_|sre|cold|tuplegetter|outside"
                             r"|record|written_out|member_names)", name):
                self.fault("L12", path, line, f"the name {name}")
        for node in ast.walk(tree):
            if isinstance(node, ast.Name) and isinstance(node.ctx, ast.Load):
                if node.id == "_":
                    self.fault("L12", path, node.lineno, "_ is read")
                if node.id not in BUILTINS | top | imported | values | set(stored) | {"property", "classmethod",
                                                                                     "staticmethod", "super"}:
                    self.fault("L8", path, node.lineno, f"the name {node.id}")

    def check_class(self, made):
        path = next(path for path, tree in self.trees.items() if made in tree.body or made in ast.walk(tree))
        own = {node.name for node in made.body if isinstance(node, ast.FunctionDef)}
        if made.decorator_list or made.keywords:
            self.fault("L5", path, made.lineno, "a decorator or keyword of a class")
        for base in made.bases:
            if name_of(base) not in set(self.classes) | BUILTINS:
                self.fault("L5", path, made.lineno, f"the base {name_of(base)}")
        for node in made.body:
            doc = isinstance(node, ast.Expr) and isinstance(node.value, ast.Constant)
            if not (doc or isinstance(node, (ast.FunctionDef, ast.Assign))):
                self.fault("L5", path, node.lineno, "not a method or a class value")
        if "__getitem__" in own and "__iter__" not in own:
            self.fault("L5", path, made.lineno, "__getitem__ without __iter__")
        if "__getitem__" in self.methods and "keys" in self.methods | self.attributes:
            self.fault("L5", path, made.lineno, "__getitem__ beside a method or an attribute called keys")
        assigned = {node.attr for node in ast.walk(made) if isinstance(node, ast.Attribute)
                    and isinstance(node.ctx, ast.Store) and isinstance(node.value, ast.Name)
                    and node.value.id == "self"}
        setters = {node.name for node in made.body if isinstance(node, ast.FunctionDef)
                   and any(name_of(mark) == "setter" for mark in node.decorator_list)}
        for name in (own & assigned) - setters:
            self.fault("L18", path, made.lineno, f"{name} is a method and an attribute")

    def check_imports(self):
        needs = {}
        for path, tree in self.trees.items():
            module = self.name + "." + os.path.basename(path)[:-3]
            needs[module] = set()
            for node in ast.walk(tree):
                if isinstance(node, ast.Import) or isinstance(node, ast.ImportFrom) and node.level:
                    self.fault("L2", path, node.lineno, "an import of this form")
                if not isinstance(node, ast.ImportFrom):
                    continue
                source = node.module
                needs[module].add(source)
                other = os.path.join(self.folder, (source or "").split(".")[-1] + ".py")
                known = LIBRARY.get(source, set()) | ({"annotations"} if source == "__future__" else set())
                if other in self.trees and source == self.name + "." + os.path.basename(other)[:-3]:
                    known = {getattr(inner, "name", None) for inner in self.trees[other].body}
                    known |= {inner.targets[0].id for inner in self.trees[other].body if isinstance(inner, ast.Assign)}
                for alias in node.names:
                    if alias.name not in known or alias.asname:
                        self.fault("L2", path, node.lineno, f"the import of {alias.name}")
        for module in needs:
            if module in reached(needs, module):
                self.fault("L16", module, 0, "files import from each other")

    def check_calls(self):
        """What operators run changes nothing. Methods of the same name are taken for one."""
        calls = {}
        for node in self.functions:
            inner = {name_of(call) for call in ast.walk(node) if isinstance(call, ast.Call)}
            calls.setdefault(node.name, set()).update(inner)
        for made in self.classes.values():
            for node in made.body:
                if isinstance(node, ast.FunctionDef) and node.name == "__init__":
                    calls.setdefault(made.name, set()).update(calls["__init__"] & {
                        name_of(call) for call in ast.walk(node) if isinstance(call, ast.Call)})
        run = set()
        for node in self.functions:
            marks = {name_of(mark) for mark in node.decorator_list}
            if node.name in OPERATORS | {"__eq__", "__len__", "__str__", "__repr__"} or "property" in marks:
                run |= {node.name} | reached(calls, node.name)
        for path, tree in self.trees.items():
            for node in functions_of(tree):
                if node.name in run and node.name != "__init__":
                    self.check_changes(path, node)

    def above(self, name):
        """A class and those above it."""
        bases = {made: {name_of(base) for base in node.bases} for made, node in self.classes.items()}
        return {name} | reached(bases, name)

    def family(self, name):
        """A class, those above it and those below it."""
        return self.above(name) | {made for made in self.classes if name in self.above(made)}

    def named(self, owner, call):
        """The functions and methods that a call may call, as far as the names tell: body.text() is that of a Body."""
        if isinstance(call.func, ast.Name):
            name = call.func.id
            return {f"{name}.__init__"} if name in self.classes else {name}
        if not isinstance(call.func, ast.Attribute):
            return set()
        holder = call.func.value
        owners = set(self.classes)
        if isinstance(holder, ast.Name):
            alike = [name for name in self.classes if name.lower() == holder.id]
            if holder.id in self.classes:
                owners = self.above(holder.id)
            elif holder.id in ("self", "cls") and owner is not None:
                owners = self.family(owner)
            elif alike:
                owners = self.family(alike[0])
        elif name_of(holder) == "super" and owner is not None:
            owners = self.above(owner) - {owner}
        return {f"{name}.{call.func.attr}" for name in owners}

    def check_recursion(self):
        """No function calls itself, directly or through others."""
        owners = {id(node): name for name, made in self.classes.items() for node in made.body}
        calls = {}
        for node in self.functions:
            owner = owners.get(id(node))
            inner = [call for call in ast.walk(node) if isinstance(call, ast.Call)]
            name = node.name if owner is None else f"{owner}.{node.name}"
            calls[name] = set().union(*[self.named(owner, call) for call in inner])
        for name in sorted(calls):
            if name in reached(calls, name):
                self.fault("L11", "package", 0, f"{name} may call itself")

    def check_properties(self):
        """No attribute has the name of a property without a setter, and no function that of a generator."""
        marked = {node.name: {name_of(mark) for mark in node.decorator_list} for node in self.functions}
        setters = {node.name for node in self.functions if "setter" in {name_of(mark) for mark in node.decorator_list}}
        for name, marks in sorted(marked.items()):
            if "property" in marks and name in self.attributes and name not in setters:
                self.fault("L5", "package", 0, f"{name} is a property and an attribute")
        plain = {node.name for node in self.functions if node.name in self.methods and "property" not in marked[node.name]}
        for node in self.functions:
            named = {name_of(mark) for mark in node.decorator_list}
            if "property" in named and node.name in plain:
                self.fault("L5", "package", node.lineno, f"{node.name} is a property and a method")
        for name in sorted(self.generators):
            if len([node for node in self.functions if node.name == name]) > 1 or name in self.attributes:
                self.fault("L23", "package", 0, f"{name} is a generator and something else")

    def check_changes(self, path, node):
        """A function that an operator runs changes only what it created."""
        created = {}
        kept = any(name_of(mark) == "property" for mark in node.decorator_list)
        for inner in ast.walk(node):
            if isinstance(inner, ast.Assign):
                for target in inner.targets:
                    if isinstance(target, ast.Name):
                        created.setdefault(target.id, []).append(is_new(inner.value, set(self.classes)))
                    elif isinstance(target, ast.Tuple):
                        for name in [each.id for each in ast.walk(target) if isinstance(each, ast.Name)]:
                            created.setdefault(name, []).append(False)
        own = {name for name, news in created.items() if all(news)}
        for inner in ast.walk(node):
            changed = None
            if isinstance(inner, (ast.Attribute, ast.Subscript)) and isinstance(inner.ctx, (ast.Store, ast.Del)):
                changed = inner.value
                if isinstance(inner, ast.Attribute) and kept and inner.attr.startswith("_"):
                    continue
            if isinstance(inner, ast.Call) and isinstance(inner.func, ast.Attribute) and name_of(inner) in CHANGING:
                changed = inner.func.value
                if isinstance(changed, ast.Subscript):
                    changed = changed.value
            if changed is not None and not (isinstance(changed, ast.Name) and changed.id in own):
                self.fault("L5", path, inner.lineno, f"{node.name} changes what it did not create")
            if isinstance(inner, ast.AugAssign) and not isinstance(inner.value, ast.Constant):
                self.fault("L5", path, inner.lineno, f"{node.name} adds in place")
            if isinstance(inner, (ast.Yield, ast.YieldFrom, ast.Global)):
                self.fault("L5", path, inner.lineno, f"{node.name} yields")


def tests_of(test):
    """The tests that are joined by and and or."""
    if isinstance(test, ast.BoolOp):
        return [part for value in test.values for part in tests_of(value)]
    return [test]


def is_new(value, classes):
    """Whether an expression creates a list, a dict, a set or an object."""
    if isinstance(value, (ast.List, ast.Dict, ast.Set, ast.ListComp, ast.DictComp, ast.SetComp)):
        return True
    if isinstance(value, ast.Call) and isinstance(value.func, ast.Name):
        return value.func.id in {"list", "dict", "set", "sorted"} | classes
    return isinstance(value, ast.BinOp) and is_new(value.left, classes)


def reached(needs, start):
    """Everything that is reached from a start by one step or more."""
    found = set()
    todo = list(needs.get(start, ()))
    while todo:
        name = todo.pop()
        if name not in found:
            found.add(name)
            todo.extend(needs.get(name, ()))
    return found


def main():
    faults = Package(sys.argv[1]).check()
    for fault in faults:
        print(fault)
    print(f"language: {len(faults)} faults")
    sys.exit(1 if faults else 0)


if __name__ == "__main__":
    main()
