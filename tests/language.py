"""Looks for breaks of ../shared/LANGUAGE.md in the files of the package, as far as one can see them in the text."""

import ast
import builtins
import io
import tokenize

LIBRARY = {"math": {"gcd", "lcm", "isqrt", "comb", "perm", "factorial"},
           "heapq": {"heappush", "heappop", "heapify", "heapreplace", "heappushpop"},
           "itertools": {"product", "combinations", "permutations", "chain", "accumulate", "pairwise", "islice",
                         "zip_longest"},
           "collections": {"defaultdict", "deque"}, "__future__": {"annotations"}}

BUILTINS = set("""len range enumerate zip min max sum abs sorted reversed int str bool bytes list tuple dict set
    frozenset isinstance ord repr any all divmod pow getattr hasattr setattr iter next map type super property
    staticmethod classmethod Exception ValueError TypeError KeyError IndexError LookupError ZeroDivisionError
    ArithmeticError OverflowError RuntimeError NotImplementedError AttributeError StopIteration
    NotImplemented""".split())

KEYWORDS = {"sorted": {"key", "reverse"}, "min": {"key", "default"}, "max": {"key", "default"}, "sum": {"start"},
            "enumerate": {"start"}, "zip": {"strict"}}

DOUBLE = {f"__{name}__" for name in """init eq repr str len enter exit call iter lt le gt ge ne add sub mul floordiv
    mod pow and or xor lshift rshift radd rsub rmul rfloordiv rmod rand ror rxor rlshift rrshift iadd isub imul
    ifloordiv imod ipow iand ior ixor ilshift irshift neg pos invert abs bool contains getitem setitem""".split()}

METHODS = set("""append clear copy count endswith extend find get index insert isalnum isalpha isdigit islower isspace
    isupper items join keys ljust lower lstrip partition pop remove replace reverse rfind rjust rpartition rsplit
    rstrip setdefault split splitlines startswith strip update upper values zfill bit_length title capitalize swapcase
    casefold center expandtabs removeprefix removesuffix rindex isascii isdecimal isnumeric istitle isidentifier
    isprintable add discard popleft appendleft extendleft rotate from_iterable format""".split())

STATEMENTS = (ast.Assign, ast.AugAssign, ast.AnnAssign, ast.If, ast.While, ast.For, ast.Return, ast.Break,
              ast.Continue, ast.Pass, ast.Raise, ast.Assert, ast.Delete, ast.Nonlocal, ast.Global, ast.Match, ast.With,
              ast.Try, ast.Expr, ast.FunctionDef, ast.ClassDef, ast.ImportFrom)

UNUSED = set("register mro elements open input law version_info with_traceback add_note".split())

UNUSED_NAMES = set("""attrgetter breakpoint builtins compile copyright credits delattr dir eval exec exit gc globals
    help id importlib license locals methodcaller os quit vars sys""".split())

UNUSED_WORDS = set("""typing typing_extensions enum Enum IntEnum StrEnum Flag IntFlag Generic Protocol ABC ABCMeta
    namedtuple NamedTuple TypedDict TYPE_CHECKING abstractmethod""".split())

# Without `_`: a doctest that ran before this test leaves that name among the builtins.
TAKEN = set(dir(builtins)) - {"_"}

MODIFYING = set("append clear extend insert pop remove reverse setdefault update add discard sort".split())

# What may iterate a generator, or something like `zip(..)`, at once.
AT_ONCE = set("list tuple dict sorted sum min max any all enumerate zip".split())

VIEWS = set("zip enumerate reversed".split())

COMPREHENSIONS = (ast.ListComp, ast.SetComp, ast.DictComp, ast.GeneratorExp)

UNUSED_PARTS = ("dataclass", "overload", "contextmanager", "_wall", "_WallAttr", "(type)", "Meta", "metaclass=")


def layout(text):
    """L10, L14: sizes and characters."""
    lines = text.split("\n")
    if len(lines) - 1 > 399:
        yield 399, "L10 a file has at most 399 lines"
    for row, line in enumerate(lines, 1):
        if len(line) > 120:
            yield row, "L10 a line has at most 120 characters"
        if any(not " " <= sign <= "~" for sign in line):
            yield row, "L14 a character that is none from the space to ~"


def words(text):
    """L17, L27: what does not stand in names and strings."""
    docstrings = docstring_rows(ast.parse(text))
    for token in tokenize.generate_tokens(io.StringIO(text).readline):
        if token.type not in (tokenize.NAME, tokenize.STRING) or token.start[0] in docstrings:
            continue
        inside = "".join(sign if sign.isalnum() or sign == "_" else " " for sign in token.string).split()
        if UNUSED_WORDS & set(inside):
            yield token.start[0], "L17 a word that is not used"
        if token.type == tokenize.NAME and token.string in UNUSED:
            yield token.start[0], f"L17 the name {token.string}"
        if token.type == tokenize.STRING:
            if "%" in token.string:
                yield token.start[0], "L27 the character % in a string"
            body = token.string.replace("\\\\", "")
            if any(body[at + 1] not in "nt\"'" for at in range(len(body)) if body[at] == "\\"):
                yield token.start[0], "L27 an escape that is not used"
    for part in UNUSED_PARTS:
        if part in text:
            yield text[:text.index(part)].count("\n") + 1, f"L12, L17 {part}"


def docstring_rows(tree):
    rows = set()
    for node in ast.walk(tree):
        if isinstance(node, (ast.Module, ast.ClassDef, ast.FunctionDef)) and ast.get_docstring(node) is not None:
            rows |= set(range(node.body[0].lineno, node.body[0].end_lineno + 1))
    return rows


def bound(tree):
    """The names that something in the file assigns, with their rows."""
    for node in ast.walk(tree):
        if isinstance(node, ast.Name) and not isinstance(node.ctx, ast.Load):
            yield node.lineno, node.id
        elif isinstance(node, ast.arg):
            yield node.lineno, node.arg
        elif isinstance(node, ast.ExceptHandler) and node.name:
            yield node.lineno, node.name
        elif isinstance(node, (ast.MatchAs, ast.MatchStar)) and node.name:
            yield node.lineno, node.name


def module_level(tree):
    """L3, L15: what stands outside of functions and classes, and that each name is bound once."""
    seen = set()
    for at, node in enumerate(tree.body):
        names = []
        if isinstance(node, ast.ImportFrom):
            names = [alias.asname or alias.name for alias in node.names]
            if any(not isinstance(ahead, (ast.ImportFrom, ast.Expr)) for ahead in tree.body[:at]):
                yield node.lineno, "L2 an import that does not stand at the top"
        elif isinstance(node, (ast.FunctionDef, ast.ClassDef)):
            names = [node.name]
        elif isinstance(node, ast.Assign) and len(node.targets) == 1 and isinstance(node.targets[0], ast.Name):
            names = [node.targets[0].id]
        elif not (at == 0 and isinstance(node, ast.Expr) and isinstance(node.value, ast.Constant)):
            yield node.lineno, "L3 a statement at module level"
        for name in names:
            if name in seen:
                yield node.lineno, f"L15 {name} is bound twice"
            seen.add(name)


def names(tree):
    """L8, L12, L15, L17: names."""
    taken = {name for _, name in bound(tree)}
    of_file = set()
    for node in tree.body:
        if isinstance(node, ast.ImportFrom):
            of_file |= {alias.asname or alias.name for alias in node.names}
        elif isinstance(node, ast.ClassDef):
            of_file.add(node.name)
    known = taken | of_file | {node.name for node in ast.walk(tree) if isinstance(node, ast.FunctionDef)}
    for row, name in bound(tree):
        if name in of_file or name in TAKEN:
            yield row, f"L15 {name} means something else"
        if name in UNUSED_NAMES or name.startswith("__"):
            yield row, f"L12, L17 the name {name}"
    for node in ast.walk(tree):
        if isinstance(node, ast.Name) and isinstance(node.ctx, ast.Load):
            if node.id == "_" or (node.id not in known and node.id not in BUILTINS):
                yield node.lineno, f"L8 the name {node.id}"
        if isinstance(node, (ast.FunctionDef, ast.ClassDef)) and node in tree.body and node.name in TAKEN:
            yield node.lineno, f"L15 {node.name} is a builtin"


def imports(tree, package):
    """L2, L16: imports. The package is a dict from modules to their trees."""
    for node in ast.walk(tree):
        if not isinstance(node, ast.ImportFrom):
            continue
        for alias in node.names:
            if node.level or (node.module in LIBRARY and (alias.name not in LIBRARY[node.module] or alias.asname)):
                yield node.lineno, "L2 this import"
            elif node.module not in LIBRARY and alias.name not in defined(package.get(node.module)):
                yield node.lineno, f"L16 {node.module} does not define {alias.name}"


def defined(tree):
    if tree is None:
        return set()
    return {node.name for node in tree.body if isinstance(node, (ast.FunctionDef, ast.ClassDef))} | {
        node.targets[0].id for node in tree.body if isinstance(node, ast.Assign)}


def functions(tree):
    """L4, L5, L10, L28: functions, methods and classes."""
    methods = {id(row): node for node in ast.walk(tree) if isinstance(node, ast.ClassDef) for row in node.body}
    for node in ast.walk(tree):
        if isinstance(node, ast.ClassDef):
            if node.decorator_list or node.keywords or node not in tree.body:
                yield node.lineno, "L5 this class"
            made = [row.name for row in node.body if isinstance(row, ast.FunctionDef) and not setter(row)]
            if len(made) != len(set(made)):
                yield node.lineno, "L18 a method is defined twice"
        if not isinstance(node, ast.FunctionDef):
            continue
        if node.end_lineno - node.lineno + 1 > 40:
            yield node.lineno, "L10 a function has at most 40 lines"
        plain = [ast.unparse(row) for row in node.decorator_list]
        if plain and (id(node) not in methods or len(plain) > 1 or not setter(node) and plain[0] not in
                      ("property", "staticmethod", "classmethod")):
            yield node.lineno, "L4 this decorator"
        if node.name.startswith("__") and (node.name not in DOUBLE or id(node) not in methods):
            yield node.lineno, f"L5 {node.name}"
        if node.name == "__init__" and any(isinstance(row, ast.Return) for row in ast.walk(node)):
            yield node.lineno, "L28 __init__ returns nothing"
        if node.name in ("__len__", "__str__", "__repr__", "__bool__") and not isinstance(node.body[-1], ast.Return):
            yield node.lineno, "L28 the last statement is a return"


def setter(node):
    return [ast.unparse(row) for row in node.decorator_list] == [f"{node.name}.setter"]


def expressions(tree):
    """L6, L7, L20, L27: statements and expressions."""
    for node in ast.walk(tree):
        if isinstance(node, ast.stmt) and not isinstance(node, STATEMENTS):
            yield node.lineno, f"L6 {type(node).__name__}"
        if isinstance(node, (ast.BinOp, ast.AugAssign)) and isinstance(node.op, (ast.Div, ast.MatMult)):
            yield node.lineno, "L7 no / and no @"
        if isinstance(node, ast.Constant) and isinstance(node.value, (float, complex)):
            yield node.lineno, "L7 no float"
        if isinstance(node, (ast.Await, ast.AsyncFor)) or node.__class__.__name__ == "TryStar":
            yield node.lineno, "L6 this statement"
        if isinstance(node, ast.AugAssign):
            yield node.lineno, "L5 nothing is added so: a class of the package has __iadd__"
        if isinstance(node, ast.Compare) and any(isinstance(op, (ast.Is, ast.IsNot)) for op in node.ops):
            if not all(isinstance(side, ast.Constant) for side in node.comparators):
                yield node.lineno, "L20 is stands before None, True or False"
        if isinstance(node, ast.BinOp) and isinstance(node.op, ast.Pow):
            if not (isinstance(node.right, ast.Constant) and 0 <= node.right.value <= 64):
                yield node.lineno, "L27 an exponent is a literal from 0 to 64"


def errors(tree):
    """L19: raise and except."""
    for node in ast.walk(tree):
        if isinstance(node, ast.Raise) and node.exc is not None:
            if not (isinstance(node.exc, ast.Call) and isinstance(node.exc.func, ast.Name)):
                yield node.lineno, "L19 raise creates its error on the spot"
        if isinstance(node, ast.ExceptHandler):
            named = node.type.elts if isinstance(node.type, ast.Tuple) else [node.type]
            for what in named:
                if not isinstance(what, ast.Name) or what.id in (
                        "Exception", "TypeError", "ArithmeticError", "OverflowError", "RuntimeError",
                        "NotImplementedError", "AttributeError", "BaseException"):
                    yield node.lineno, "L19 what is caught"


def calls(tree, own):
    """L5, L7, L22, L25: calls. `own` are the names of all methods of the package."""
    for node in ast.walk(tree):
        if not isinstance(node, ast.Call):
            continue
        if isinstance(node.func, ast.Attribute) and node.func.attr not in METHODS | own | {"__init__"}:
            yield node.lineno, f"L25 the method {node.func.attr}"
        if not isinstance(node.func, ast.Name):
            continue
        word = node.func.id
        if word in BUILTINS and any(key.arg not in KEYWORDS.get(word, ()) for key in node.keywords):
            yield node.lineno, f"L22 a keyword of {word}"
        if word in ("any", "all", "min", "max", "sum", "sorted"):
            if any(isinstance(value, ast.GeneratorExp) for value in node.args):
                yield node.lineno, f"L7 {word} takes a list: a class of the package has __eq__"
        if word in ("sorted", "min", "max") and not plainly_ordered(node):
            yield node.lineno, f"L5 {word} takes what is plainly numbers or strings: Amounts compare otherwise"


def plainly_ordered(call):
    if any(key.arg == "key" and ast.unparse(key.value) in ("len", "int", "str") for key in call.keywords):
        return True
    if len(call.args) > 1:
        return any(plain(value) for value in call.args)
    value = call.args[0]
    if isinstance(value, (ast.ListComp, ast.SetComp)):
        return plain(value.elt)
    if isinstance(value, (ast.List, ast.Tuple)):
        return all(plain(part) for part in value.elts)
    return isinstance(value, ast.Call) and ast.unparse(value.func) in ("set", "range")


def plain(value):
    if isinstance(value, ast.BinOp):
        return plain(value.left) and plain(value.right)
    called = isinstance(value, ast.Call) and ast.unparse(value.func) in ("len", "int", "ord", "str", "repr")
    return called or isinstance(value, (ast.Constant, ast.JoinedStr))


def parents(tree):
    return {child: node for node in ast.walk(tree) for child in ast.iter_child_nodes(node)}


def is_call_of(node, words):
    return isinstance(node, ast.Call) and isinstance(node.func, ast.Name) and node.func.id in words


def generator_names(package):
    return {node.name for tree in package.values() for node in ast.walk(tree) if isinstance(node, ast.FunctionDef)
            and any(isinstance(row, (ast.Yield, ast.YieldFrom)) for row in ast.walk(node))}


def generators(tree, package):
    """L23: a generator is iterated at once, beside names and literals only, and is no value."""
    made = generator_names(package)
    above = parents(tree)
    for node in ast.walk(tree):
        if isinstance(node, ast.Name) and node.id in made:
            call = above[node]
            if not (isinstance(call, ast.Call) and call.func is node):
                yield node.lineno, "L23 a generator is no value"
            elif not iterated_at_once(call, above):
                yield node.lineno, "L23 a generator is iterated at once"
            elif not all(isinstance(row, (ast.Name, ast.Attribute, ast.Constant))
                         for row in [*call.args, *[key.value for key in call.keywords]]):
                yield node.lineno, "L23 beside a generator stand names and literals"
        if isinstance(node, (ast.Try, ast.With)):
            if any(isinstance(row, (ast.Yield, ast.YieldFrom)) for row in ast.walk(node)):
                yield node.lineno, "L23 no yield under try and with"
        if isinstance(node, (ast.Yield, ast.YieldFrom)) and not isinstance(above[node], ast.Expr):
            yield node.lineno, "L23 yield is a statement of its own"


def iterated_at_once(call, above):
    outer = above[call]
    if isinstance(outer, (ast.For, ast.comprehension)):
        return outer.iter is call
    return isinstance(outer, ast.YieldFrom) or is_call_of(outer, AT_ONCE) and call in outer.args


def views(tree):
    """L23: zip, enumerate, reversed and views of dicts are iterated at once (kept ones are not used here)."""
    above = parents(tree)
    for node in ast.walk(tree):
        view = isinstance(node, ast.Call) and isinstance(node.func, ast.Attribute) and not node.args and (
            node.func.attr in ("items", "keys", "values"))
        if (view or is_call_of(node, VIEWS)) and not iterated_at_once(node, above):
            yield node.lineno, "L23 this is iterated at once"


def sets(tree):
    """L24: where a set may stand (stored ones are not used here)."""
    above = parents(tree)
    for node in ast.walk(tree):
        if isinstance(node, (ast.Set, ast.SetComp)) or is_call_of(node, {"set"}):
            outer = above[node]
            if not isinstance(outer, ast.Compare) and not is_call_of(outer, {"sorted", "len"}):
                yield node.lineno, "L24 a set stands in sorted, in len or in a comparison"
        elif is_call_of(node, {"frozenset"}):
            yield node.lineno, "L24 no frozenset"


def loops(tree):
    """L23: what a loop iterates over is not modified in it."""
    for node in ast.walk(tree):
        if not isinstance(node, ast.For):
            continue
        over = iterated(node.iter)
        for row in [part for statement in node.body for part in ast.walk(statement)]:
            if isinstance(row, ast.Call) and isinstance(row.func, ast.Attribute) and row.func.attr in MODIFYING:
                changed = row.func.value
            elif isinstance(row, ast.Subscript) and not isinstance(row.ctx, ast.Load):
                changed = row.value
            else:
                continue
            if ast.unparse(changed) in over:
                yield row.lineno, "L23 this is modified in its own loop"


def iterated(node):
    """The texts of what is iterated over, also through enumerate, zip, reversed and views."""
    if is_call_of(node, VIEWS):
        return {text for value in node.args for text in iterated(value)}
    if isinstance(node, ast.Call) and isinstance(node.func, ast.Attribute) and node.func.attr in (
            "items", "keys", "values"):
        return {ast.unparse(node.func.value)}
    if isinstance(node, (ast.Name, ast.Attribute, ast.Subscript)):
        return {ast.unparse(node)}
    return set()


def stars(tree):
    """L7: behind a star in a call, and beside `**`, stand names, attributes, literals."""
    for node in ast.walk(tree):
        if isinstance(node, ast.Call):
            behind = [row.value for row in node.args if isinstance(row, ast.Starred)]
            behind += [key.value for key in node.keywords if key.arg is None]
            if not all(isinstance(row, (ast.Name, ast.Attribute)) for row in behind):
                yield node.lineno, "L7 behind a star stand names"


def classes(tree, package):
    """L5: operators, iteration and properties."""
    everything = [node for one in {**package, "this file": tree}.values() for node in ast.walk(one)]
    plain_methods = {row.name for node in everything if isinstance(node, ast.ClassDef) for row in node.body
                     if isinstance(row, ast.FunctionDef) and not is_property(row) and not setter(row)}
    properties = {node.name for node in everything if isinstance(node, ast.FunctionDef) and is_property(node)}
    attributes = {node.attr for node in everything if isinstance(node, ast.Attribute)
                  and not isinstance(node.ctx, ast.Load)}
    for node in tree.body:
        if not isinstance(node, ast.ClassDef):
            continue
        made = {row.name: row for row in node.body if isinstance(row, ast.FunctionDef) and not setter(row)}
        if "__getitem__" in made and "__iter__" not in made:
            yield node.lineno, "L5 a class with __getitem__ has an __iter__"
        if node.name.startswith("_"):
            yield node.lineno, "L12 the name of a class begins with a letter"
        if "__exit__" in made:
            yield from exits(made)
        yield from (row for name in made for row in unchanged(made[name]))
        if "__iter__" in made and not is_plain_iteration(made["__iter__"]):
            yield node.lineno, "L5 __iter__ has one statement"
        for name, row in made.items():
            if is_property(row) and name in plain_methods | METHODS:
                yield row.lineno, "L5 a property with the name of a method"
            if name in attributes or name in properties and name.startswith("_"):
                yield row.lineno, "L18 a method with the name of an attribute"
            if row.decorator_list == [] and (not row.args.args or row.args.args[0].arg != "self"):
                yield row.lineno, "L4 a method has a plain first parameter"
    if {"__len__", "__iter__"} <= plain_methods:
        for node in ast.walk(tree):
            if isinstance(node, ast.ImportFrom) and {row.name for row in node.names} & {
                    "product", "combinations", "permutations"}:
                yield node.lineno, "L2 none of the products beside a class with __iter__ and __len__"


def unchanged(node):
    """L5: an operator and a property change nothing."""
    if node.name in ("__setitem__", "__init__", "__enter__", "__exit__", "__iadd__", "__call__") or setter(node):
        return
    if is_property(node) or node.name in DOUBLE:
        for row in ast.walk(node):
            if isinstance(row, (ast.Attribute, ast.Subscript)) and not isinstance(row.ctx, ast.Load):
                yield row.lineno, "L5 an operator and a property change nothing"


def exits(made):
    """L6: the rows of __exit__, and of the methods that it calls; it alone gives a local an attribute of self, once."""
    local = None
    for row in shown(made["__exit__"]):
        if is_call_of_self(row, made):
            for inner in shown(made[row.value.func.attr]):
                if not is_plain_change(inner, {"self"}):
                    yield inner.lineno, "L6 a row of a method that __exit__ calls"
        elif local is None and is_local_of_self(row):
            local = row.targets[0].id
        elif not is_plain_change(row, {"self", local}):
            yield row.lineno, "L6 a row of __exit__"


def shown(node):
    """The rows of a function behind its docstring."""
    return node.body[1:] if ast.get_docstring(node) is not None else node.body


def is_call_of_self(row, made):
    """Whether a row is `self.shut()`, a method of the same class."""
    call = row.value if isinstance(row, ast.Expr) else None
    return isinstance(call, ast.Call) and not call.args and not call.keywords and (
        is_attribute_of(call.func, {"self"}) and call.func.attr in made)


def is_attribute_of(node, names):
    return isinstance(node, ast.Attribute) and isinstance(node.value, ast.Name) and node.value.id in names


def is_local_of_self(row):
    """Whether a row is `net = self.net`."""
    if not isinstance(row, ast.Assign) or not is_attribute_of(row.value, {"self"}) or len(row.targets) > 1:
        return False
    return isinstance(row.targets[0], ast.Name) and row.targets[0].id not in ("self", "kind", "value", "trace")


def is_plain_change(row, names):
    """Whether an attribute of one of the names is assigned one of these, an attribute of one, or a literal."""
    if isinstance(row, ast.Pass):
        return True
    if not isinstance(row, ast.Assign) or not all(is_attribute_of(target, names) for target in row.targets):
        return False
    value = row.value
    return isinstance(value, ast.Constant) or is_attribute_of(value, names) or (
        isinstance(value, ast.Name) and value.id in names)


def assigned_properties(tree, package):
    """L5: a property is assigned only where each one of its name has a setter; here none is assigned."""
    properties = {node.name for one in {**package, "this file": tree}.values() for node in ast.walk(one)
                  if isinstance(node, ast.FunctionDef) and is_property(node)}
    for node in ast.walk(tree):
        if isinstance(node, ast.Attribute) and not isinstance(node.ctx, ast.Load) and node.attr in properties:
            yield node.lineno, "L5 a property is assigned"


def withs(tree):
    """L6: `with` stands over a call, and gives a name."""
    for node in ast.walk(tree):
        if isinstance(node, ast.With):
            for item in node.items:
                if not isinstance(item.context_expr, ast.Call) or not isinstance(item.optional_vars, ast.Name):
                    yield node.lineno, "L6 with stands over a call, and gives a name"


def comprehensions(tree):
    """L7: a comprehension in another one has no variable that the function assigns elsewhere."""
    for node in ast.walk(tree):
        if not isinstance(node, ast.FunctionDef):
            continue
        made = [row for row in ast.walk(node) if isinstance(row, COMPREHENSIONS)]
        inside = {id(name) for row in made for name in variables(row)}
        elsewhere = {name.id for name in ast.walk(node) if isinstance(name, ast.Name) and id(name) not in inside
                     and not isinstance(name.ctx, ast.Load)} | {name.arg for name in node.args.args}
        for row in made:
            around = [other for other in made if other is not row and any(part is row for part in ast.walk(other))]
            taken = elsewhere | {name.id for other in around for name in variables(other)}
            if around and any(name.id in taken for name in variables(row)):
                yield row.lineno, "L7 a name in a comprehension that stands in another one"


def variables(node):
    return [name for part in node.generators for name in ast.walk(part.target) if isinstance(name, ast.Name)]


def handlers(tree):
    """L19: what stands in a try is a call of a function alone, or what is returned by one."""
    for node in ast.walk(tree):
        if isinstance(node, ast.Try):
            row = node.body[0]
            if len(node.body) > 1 or not isinstance(row, (ast.Expr, ast.Return)) or not isinstance(row.value, ast.Call):
                yield node.lineno, "L19 a call stands alone in a try"
            elif not all(isinstance(value, (ast.Name, ast.Constant)) for value in row.value.args):
                yield node.lineno, "L19 names stand in the call in a try"


def is_property(node):
    return [ast.unparse(row) for row in node.decorator_list] == ["property"]


def is_plain_iteration(node):
    body = [row for row in node.body if not (isinstance(row, ast.Expr) and isinstance(row.value, ast.Constant))]
    return len(body) == 1 and isinstance(body[0], (ast.Return, ast.Raise)) and (
        isinstance(body[0], ast.Raise) or is_call_of(body[0].value, {"iter"}))


def method_names(package):
    return {row.name for tree in package.values() for node in ast.walk(tree) if isinstance(node, ast.ClassDef)
            for row in node.body if isinstance(row, ast.FunctionDef)}


def faults(text, package):
    """All faults of a file: a list of tuples (row, what)."""
    tree = ast.parse(text)
    own = method_names({**package, "this file": tree})
    return sorted([*layout(text), *words(text), *module_level(tree), *names(tree), *imports(tree, package),
                   *functions(tree), *expressions(tree), *errors(tree), *calls(tree, own),
                   *generators(tree, {**package, "this file": tree}), *views(tree), *sets(tree), *loops(tree),
                   *stars(tree), *classes(tree, package), *assigned_properties(tree, package), *withs(tree),
                   *comprehensions(tree), *handlers(tree)])
