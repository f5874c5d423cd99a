"""What a script can see of LANGUAGE.md: faults() tells each place of the package that breaks a rule."""

import ast
import builtins
import os
import re

HERE = os.path.dirname(os.path.dirname(os.path.abspath(__file__)))
PACKAGE = os.path.join(HERE, "tacthouse")

LIBRARY = {"heapq": {"heappush", "heappop", "heapify", "heapreplace", "heappushpop"},
           "math": {"gcd", "lcm", "isqrt", "comb", "perm", "factorial"},
           "itertools": {"product", "combinations", "permutations", "chain", "accumulate", "pairwise", "islice",
                         "zip_longest"},
           "collections": {"defaultdict", "deque"}}
BUILTINS = set("""len range enumerate zip min max sum abs sorted reversed int str bool bytes list tuple dict set frozenset
isinstance ord repr any all divmod pow getattr hasattr setattr iter next map type super property staticmethod classmethod
Exception ValueError TypeError KeyError IndexError LookupError ZeroDivisionError ArithmeticError OverflowError RuntimeError
NotImplementedError AttributeError StopIteration NotImplemented True False None""".split())
# A doctest leaves its last answer as a builtin _.
PYTHONS = set(dir(builtins)) - {"_"}
METHODS = set("""append clear copy count endswith extend find get index insert isalnum isalpha isdigit islower isspace
isupper items join keys ljust lower lstrip partition pop remove replace reverse rfind rjust rpartition rsplit rstrip
setdefault split splitlines startswith strip update upper values zfill bit_length add discard title capitalize swapcase
casefold removeprefix removesuffix rindex isascii isdecimal isnumeric appendleft popleft""".split())
CHANGING = {"append", "clear", "extend", "insert", "pop", "remove", "reverse", "setdefault", "update", "sort", "add",
            "discard"}
BARRED = set("""register mro elements open input law version_info with_traceback add_note""".split())
BARRED_NAMES = set("""attrgetter breakpoint builtins compile copyright credits delattr dir eval exec exit gc getattr
globals hasattr help id importlib license locals methodcaller os quit setattr super type vars sys""".split())
BARRED_WORDS = set("""type typing typing_extensions enum Enum IntEnum StrEnum Flag IntFlag Generic Protocol ABC ABCMeta
namedtuple NamedTuple TypedDict TYPE_CHECKING abstractmethod""".split())
BARRED_ATTRIBUTES = set("""items keys values pop update append clear extend insert remove reverse setdefault sort args
encode decode hex fromhex format format_map as_integer_ratio bit_count conjugate from_bytes is_integer to_bytes""".split())
BARRED_FILES = {"test", "tests", "testing", "site", "conftest", "sitecustomize", "usercustomize", "heapq", "math",
                "itertools"}
DUNDERS = set("""__init__ __eq__ __repr__ __str__ __len__ __enter__ __exit__ __call__ __iter__ __lt__ __le__ __gt__ __ge__
__ne__ __add__ __sub__ __mul__ __contains__ __getitem__ __setitem__ __bool__ __neg__""".split())
STATEMENTS = (ast.Assign, ast.AugAssign, ast.If, ast.While, ast.For, ast.Return, ast.Break, ast.Continue, ast.Pass,
              ast.Raise, ast.Assert, ast.Delete, ast.Nonlocal, ast.With, ast.Try, ast.Expr, ast.FunctionDef)
CAUGHT = {"ValueError", "LookupError", "IndexError", "KeyError", "ZeroDivisionError", "StopIteration"}


def sources():
    """(name of the module, path, text) of each file."""
    found = []
    for folder, folders, files in os.walk(PACKAGE):
        folders[:] = [name for name in folders if name != "__pycache__"]
        for name in sorted(files):
            path = os.path.join(folder, name)
            with open(path, encoding="utf-8") as file:
                module = os.path.relpath(path, HERE)[:-3].replace(os.sep, ".")
                found.append((module, path, file.read()))
    return found


class Checker:
    """The faults of one file."""

    def __init__(self, module, text, own):
        self.module, self.text, self.own, self.found = module, text, own, []
        self.tree = ast.parse(text)
        for node in ast.walk(self.tree):
            for child in ast.iter_child_nodes(node):
                child.above = node

    def fault(self, rule, node, what):
        self.found.append(f"{self.module}:{getattr(node, 'lineno', 0)}: {rule}: {what}")

    def run(self):
        self.lines()
        self.imports()
        self.top_level()
        self.words()
        for node in ast.walk(self.tree):
            for check in (self.statement, self.function, self.klass, self.expression, self.name, self.call, self.loop,
                          self.string, self.handler):
                check(node)
        return self.found

    def lines(self):
        rows = self.text.split("\n")
        if len(rows) > 400:
            self.fault("L10", None, f"{len(rows)} lines")
        for number, row in enumerate(rows, 1):
            if len(row) > 120:
                self.found.append(f"{self.module}:{number}: L10: {len(row)} characters")
            if re.search(r"[^ -~]", row):
                self.found.append(f"{self.module}:{number}: L14: character")
            if "%" in re.sub(r" %=? ", "", row):
                self.found.append(f"{self.module}:{number}: L27: percent sign")
            if "_wall" in row or "_WallAttr" in row:
                self.found.append(f"{self.module}:{number}: L12: barred word")

    def imports(self):
        above = True
        for at, node in enumerate(self.tree.body):
            if isinstance(node, ast.ImportFrom):
                if not above:
                    self.fault("L2", node, "not at the top")
                self.import_from(node)
            elif not (at == 0 and isinstance(node, ast.Expr)):
                above = False
        for node in ast.walk(self.tree):
            if isinstance(node, ast.Import) or isinstance(node, ast.ImportFrom) and node not in self.tree.body:
                self.fault("L16", node, "import")

    def import_from(self, node):
        for name in node.names:
            if name.name == "*" or name.asname or node.level:
                self.fault("L2", node, "form of import")
            elif node.module.split(".")[0] == "tacthouse":
                if name.name not in self.own.get(node.module, ()):
                    self.fault("L16", node, f"{name.name} is not defined in {node.module}")
            elif name.name not in LIBRARY.get(node.module, ()):
                self.fault("L2", node, f"{node.module}.{name.name}")

    def top_level(self):
        bound = {}
        for at, node in enumerate(self.tree.body):
            if isinstance(node, ast.ImportFrom):
                names = [name.name for name in node.names]
            elif isinstance(node, (ast.FunctionDef, ast.ClassDef)):
                names = [node.name]
            elif isinstance(node, ast.Assign) and len(node.targets) == 1 and isinstance(node.targets[0], ast.Name):
                names = [node.targets[0].id]
                if any(isinstance(part, (ast.Call, ast.ListComp, ast.DictComp, ast.SetComp, ast.Set))
                       for part in ast.walk(node.value)):
                    self.fault("L3", node, "no plain value")
            elif at == 0 and isinstance(node, ast.Expr) and isinstance(node.value, ast.Constant):
                continue
            else:
                self.fault("L3", node, "statement at module level")
                continue
            for name in names:
                if name in bound:
                    self.fault("L15", node, f"{name} is bound twice")
                bound[name] = True
        self.imported = {name.name for node in self.tree.body if isinstance(node, ast.ImportFrom) for name in node.names}
        self.classes = {node.name for node in self.tree.body if isinstance(node, ast.ClassDef)}
        self.outer = set(bound)

    def words(self):
        """The words that stand nowhere in the code, strings but docstrings included."""
        docs = [node for node in ast.walk(self.tree) if isinstance(node, ast.Expr) and isinstance(node.value, ast.Constant)]
        rows = self.text.split("\n")
        for node in docs:
            for number in range(node.lineno - 1, node.end_lineno):
                rows[number] = ""
        for number, row in enumerate(rows, 1):
            code = row.split("#")[0]
            for word in re.findall(r"\w+", code):
                if word in BARRED_WORDS and not (word == "type" and "type(" in code):
                    self.found.append(f"{self.module}:{number}: L17: {word}")

    def statement(self, node):
        if isinstance(node, ast.stmt) and node not in self.tree.body and not isinstance(node, STATEMENTS):
            if not isinstance(node, (ast.ImportFrom,)):
                self.fault("L6", node, type(node).__name__)
        if isinstance(node, ast.ClassDef) and node not in self.tree.body:
            self.fault("L15", node, "a class within")
        if isinstance(node, ast.Expr) and not isinstance(node.value, (ast.Call, ast.Constant)):
            self.fault("L6", node, "expression alone")
        if isinstance(node, ast.Delete):
            for target in node.targets:
                if isinstance(target, ast.Attribute):
                    self.fault("L6", node, "del of an attribute")

    def function(self, node):
        if not isinstance(node, ast.FunctionDef):
            return
        if node.end_lineno - node.lineno + 1 > 40:
            self.fault("L10", node, f"{node.name} has {node.end_lineno - node.lineno + 1} lines")
        for dec in node.decorator_list:
            if not (isinstance(node.above, ast.ClassDef) and ast.unparse(dec) in ("property", "staticmethod")):
                self.fault("L4", node, "decorator")
        for default in node.args.defaults + [one for one in node.args.kw_defaults if one]:
            if any(isinstance(part, (ast.Call, ast.List, ast.Dict, ast.Set)) for part in ast.walk(default)):
                self.fault("L4", node, "default value")
        if node.returns or any(one.annotation for one in node.args.args):
            self.fault("L21", node, "annotation")
        if ast.get_docstring(node) is None and not node.name.startswith("__"):
            self.fault("style", node, f"{node.name} has no docstring")
        self.binding(node, node.name, own=isinstance(node.above, (ast.Module, ast.ClassDef)))
        for one in node.args.args + node.args.kwonlyargs + [two for two in (node.args.vararg, node.args.kwarg) if two]:
            self.binding(one, one.arg)
        stored = [part.id for part in ast.walk(node) if isinstance(part, ast.Name) and isinstance(part.ctx, ast.Store)]
        sets = [part.targets[0].id for part in ast.walk(node) if isinstance(part, ast.Assign)
                and isinstance(part.targets[0], ast.Name) and self.is_set(part.value)]
        for name in sets:
            if stored.count(name) != 1:
                self.fault("L24", node, f"the set {name} is assigned again")
            for part in ast.walk(node):
                if isinstance(part, ast.Name) and part.id == name and isinstance(part.ctx, ast.Load):
                    self.set_use(part)

    def is_set(self, node):
        return isinstance(node, (ast.Set, ast.SetComp)) or (
            isinstance(node, ast.Call) and ast.unparse(node.func) in ("set", "frozenset"))

    def set_use(self, node):
        above = node.above
        fine = (isinstance(above, ast.Attribute) and above.attr in ("add", "discard")
                or isinstance(above, ast.Compare)
                or isinstance(above, ast.Call) and ast.unparse(above.func) in ("len", "sorted")
                or isinstance(above, (ast.If, ast.While, ast.UnaryOp)))
        if not fine:
            self.fault("L24", node, f"use of the set {node.id}")

    def klass(self, node):
        if not isinstance(node, ast.ClassDef):
            return
        if node.decorator_list or node.keywords:
            self.fault("L5", node, "class head")
        names = [part.name for part in node.body if isinstance(part, ast.FunctionDef)]
        if len(set(names)) != len(names):
            self.fault("L18", node, "a method twice")
        for name in names:
            if name.startswith("__") and name not in DUNDERS:
                self.fault("L5", node, name)
        attributes = {part.attr for part in ast.walk(node) if isinstance(part, ast.Attribute)
                      and isinstance(part.value, ast.Name) and part.value.id == "self" and isinstance(part.ctx, ast.Store)}
        for name in attributes & set(names):
            self.fault("L18", node, f"{name} is a method and an attribute")

    def binding(self, node, name, own=False):
        """A name that is bound: a variable, a parameter, a function."""
        if name in PYTHONS or name in BARRED_NAMES or name in BARRED:
            if not (own and isinstance(getattr(node, "above", None), ast.ClassDef) and name not in BARRED):
                self.fault("L15", node, name)
        # A parameter may have the name of a function of its file: the interface has such.
        outer = self.imported | self.classes if isinstance(node, ast.arg) else self.outer
        if not own and name in outer:
            self.fault("L15", node, f"{name} is an outer name, too")
        if not re.fullmatch(r"_|_?[A-Za-z][A-Za-z0-9_]*|__\w+__", name) or (name.startswith("__") and name not in DUNDERS):
            self.fault("L12", node, name)

    def name(self, node):
        if isinstance(node, ast.Name) and isinstance(node.ctx, ast.Store):
            self.binding(node, node.id, own=node.above in self.tree.body)
        if isinstance(node, ast.Name) and isinstance(node.ctx, ast.Load):
            if node.id == "_":
                self.fault("L12", node, "_ is read")
            if node.id in PYTHONS and node.id not in BUILTINS:
                self.fault("L8", node, node.id)
        if isinstance(node, ast.Attribute):
            if node.attr in BARRED or node.attr.startswith("__") or node.attr in ("encode", "decode", "format", "sort"):
                self.fault("L17", node, node.attr)
            if isinstance(node.ctx, ast.Store):
                if node.attr in BARRED_ATTRIBUTES:
                    self.fault("L26", node, node.attr)
                if not isinstance(node.value, ast.Name) or node.value.id in self.outer:
                    self.fault("L18", node, "an attribute is assigned")
            called = isinstance(node.above, ast.Call) and node.above.func is node
            if called and node.attr not in METHODS and node.attr not in self.own["methods"]:
                self.fault("L25", node, node.attr)
            if not called and node.attr not in self.own["attributes"] and node.attr not in self.own["methods"]:
                self.fault("L18", node, f"no class assigns {node.attr}")

    def expression(self, node):
        barred = (ast.AsyncFor, ast.Await, ast.YieldFrom, ast.Starred, ast.Global)
        if isinstance(node, barred) and not isinstance(node, ast.Starred):
            self.fault("L6", node, type(node).__name__)
        if isinstance(node, ast.Constant) and isinstance(node.value, (float, complex)):
            self.fault("L7", node, "float")
        if isinstance(node, (ast.BinOp, ast.AugAssign)):
            if isinstance(node.op, (ast.Div, ast.MatMult)):
                self.fault("L7", node, "/")
            if isinstance(node.op, ast.Pow) and not (isinstance(node.right, ast.Constant) and 0 <= node.right.value <= 64):
                self.fault("L27", node, "exponent")
        if isinstance(node, ast.Compare):
            for op, side in zip(node.ops, node.comparators):
                if isinstance(op, (ast.Is, ast.IsNot)) and not (isinstance(side, ast.Constant)
                                                                and side.value in (None, True, False)):
                    self.fault("L20", node, "is")
        if isinstance(node, ast.GeneratorExp):
            above = node.above
            if not (isinstance(above, ast.Call) and ast.unparse(above.func) in ("list", "tuple", "dict")):
                self.fault("L7", node, "generator expression")
        if isinstance(node, ast.Set) and len(node.elts) > 2:
            self.fault("L13", node, "set")
        if self.is_set(node) if isinstance(node, ast.expr) else False:
            above = node.above
            fine = isinstance(above, (ast.Compare, ast.Assign)) or (
                isinstance(above, ast.Call) and ast.unparse(above.func) in ("sorted", "len"))
            if not fine:
                self.fault("L24", node, "set")
        if isinstance(node, ast.Lambda) and not isinstance(node.above, ast.keyword):
            self.fault("style", node, "lambda")

    def call(self, node):
        if not isinstance(node, ast.Call):
            return
        name = ast.unparse(node.func)
        if name in ("zip", "enumerate", "reversed", "range", "map") or name.split(".")[-1] in ("items", "keys", "values"):
            above = node.above
            fine = (isinstance(above, (ast.For, ast.comprehension)) or isinstance(above, ast.Compare) and name == "range"
                    or isinstance(above, ast.Call)
                    and ast.unparse(above.func) in ("list", "tuple", "dict", "sorted", "sum", "any", "all", "enumerate",
                                                    "zip", "min", "max")
                    or isinstance(above, ast.Call) and name == "range" and ast.unparse(above.func) in ("reversed", "len")
                    or isinstance(above, ast.Assign) and name == "range")
            if not fine:
                self.fault("L23", node, name)
        if name == "isinstance" and not re.fullmatch(r"\(?[\w, ]+\)?", ast.unparse(node.args[1])):
            self.fault("L22", node, "isinstance")
        allowed = {"sorted": {"key", "reverse"}, "min": {"key", "default"}, "max": {"key", "default"}, "sum": {"start"},
                   "enumerate": {"start"}, "zip": {"strict"}}
        for keyword in node.keywords:
            if name in BUILTINS and keyword.arg not in allowed.get(name, ()):
                self.fault("L22", node, f"keyword {keyword.arg}")
            if isinstance(node.func, ast.Attribute) and node.func.attr in METHODS:
                self.fault("L25", node, f"keyword {keyword.arg}")
        if name in ("open", "print", "chr", "hash", "eval", "exec", "pow"):
            self.fault("L8", node, name)
        if any(isinstance(arg, ast.Starred) for arg in node.args) and name in BUILTINS - {"max", "min", "zip"}:
            self.fault("L7", node, "star")

    def loop(self, node):
        """What a loop goes over is not changed in it."""
        if not isinstance(node, ast.For):
            return
        heads = [node.iter]
        while isinstance(heads[-1], ast.Call) and heads[-1].args and ast.unparse(heads[-1].func) in (
                "enumerate", "zip", "reversed"):
            heads.extend(heads[-1].args)
        texts = set()
        for head in heads:
            if isinstance(head, ast.Call) and isinstance(head.func, ast.Attribute):
                head = head.func.value
            if isinstance(head, (ast.Name, ast.Attribute, ast.Subscript)):
                texts.add(ast.unparse(head))
        for part in [one for row in node.body for one in ast.walk(row)]:
            if isinstance(part, ast.Subscript) and isinstance(part.ctx, (ast.Store, ast.Del)):
                if ast.unparse(part.value) in texts:
                    self.fault("L23", part, "changed in its loop")
            if isinstance(part, ast.Call) and isinstance(part.func, ast.Attribute) and part.func.attr in CHANGING:
                if ast.unparse(part.func.value) in texts:
                    self.fault("L23", part, "changed in its loop")

    def string(self, node):
        if not (isinstance(node, ast.Constant) and isinstance(node.value, str)):
            return
        if re.search(r"\._{1,2}$", node.value) or re.fullmatch(r"__.*__", node.value):
            self.fault("L27", node, "string")

    def handler(self, node):
        if isinstance(node, ast.ExceptHandler):
            names = [node.type] if not isinstance(node.type, ast.Tuple) else node.type.elts
            for one in names:
                if one is None or ast.unparse(one) in PYTHONS and ast.unparse(one) not in CAUGHT:
                    self.fault("L19", node, "handler")
        if isinstance(node, ast.Raise) and node.exc is not None:
            if not (isinstance(node.exc, ast.Call) and isinstance(node.exc.func, ast.Name)):
                self.fault("L19", node, "raise")
        if isinstance(node, ast.Try):
            self.fault("L19", node, "try: look at what may stand in it, then allow it here")


def cycles(files):
    """Modules that import from each other."""
    edges = {}
    for module, _, text in files:
        edges[module] = [node.module for node in ast.walk(ast.parse(text))
                         if isinstance(node, ast.ImportFrom) and node.module.split(".")[0] == "tacthouse"]
    found = []
    for start in edges:
        seen, open_ones = set(), list(edges[start])
        while open_ones:
            one = open_ones.pop()
            if one not in seen:
                seen.add(one)
                open_ones.extend(edges.get(one, ()))
        if start in seen:
            found.append(f"{start}: L16: imports itself through others")
    return found


def faults():
    """All faults that are seen."""
    files, found = sources(), []
    own = {"methods": set(), "attributes": set()}
    for module, path, text in files:
        name = os.path.basename(path)
        if not re.fullmatch(r"[a-z0-9_]+\.py", name):
            found.append(f"{path}: L1: name")
        if name[:-3] in BARRED_FILES or name[:-3] in PYTHONS or name.startswith(("test_", "law_")):
            found.append(f"{path}: L14: name")
        tree = ast.parse(text)
        own[module] = {node.name for node in tree.body if isinstance(node, (ast.FunctionDef, ast.ClassDef))}
        own[module] |= {node.targets[0].id for node in tree.body if isinstance(node, ast.Assign)}
        for node in ast.walk(tree):
            if isinstance(node, ast.ClassDef):
                own["methods"] |= {part.name for part in node.body if isinstance(part, ast.FunctionDef)}
            if isinstance(node, ast.Attribute) and isinstance(node.ctx, ast.Store):
                own["attributes"].add(node.attr)
    if len(files) > 100:
        found.append("L14: files")
    for module, path, text in files:
        found.extend(Checker(module, text, own).run())
    return found + cycles(files)
