"""The files of the package keep the rules of ../shared/LANGUAGE.md."""

import ast
import unittest
import warnings
from pathlib import Path

import language

FOLDER = Path(__file__).resolve().parent.parent / "surepipes"
FILES = sorted(FOLDER.rglob("*.py"))


def module_of(path):
    return ".".join(path.relative_to(FOLDER.parent).with_suffix("").parts)


PACKAGE = {module_of(path): ast.parse(path.read_text(encoding="utf-8")) for path in FILES}

# The methods of the interface that stand in the body of the class itself, and in which file the class stands.
INTERFACE = {
    ("amounts", None): "is_integer is_name is_amount amount_of Amount",
    ("amounts", "Amount"): """__init__ top bottom sign __add__ __radd__ __sub__ __rsub__ __mul__ __rmul__ __neg__
        __abs__ __bool__ over __lt__ __le__ __gt__ __ge__ __eq__ __str__ __repr__ sum_of read""",
    ("curves", None): "Curve",
    ("curves", "Curve"): """__init__ __call__ back points corners is_straight conductance turned __add__ __or__ __eq__
        straight""",
    ("nets", None): "Net",
    ("nets", "Net"): """__init__ nodes __getitem__ __iter__ names __contains__ __len__ __eq__ neighbours between of
        __repr__ without joined turned bridges is_bridge""",
    ("cuts", None): "cuts is_cut ways seen",
    ("states", None): "State balances drops fed_state held_state fits_fed fits_held curves_of",
    ("states", "State"): "__init__ flows heights __eq__ moved",
    ("flows", None): "ranks bad_ring fit_flows is_bad_ring",
    ("ranges", None): "Stretch cut_sums flow_stretch conductances_for are_conductances_for",
    ("ranges", "Stretch"): "__init__ low high is_single __contains__ __eq__ __str__ __repr__ plus turned",
    ("signs", None): """fed_compare held_compare fed_direction held_direction opposite lower_ways are_lower_ways
        unlike_cuts height_stretch gives""",
    ("examples", None): "fed_example held_example",
    ("orders", None): "Order",
    ("orders", "Order"): """__init__ __iter__ levels __len__ __getitem__ __contains__ __eq__ nodes turned of_heights of
        __str__ __repr__""",
    ("drains", None): "fed_drains held_drains are_fed_drains are_held_drains block is_block held_fault",
    ("readings", None): "Readings",
    ("readings", "Readings"): """__init__ __setitem__ __getitem__ __iadd__ __iter__ rows __contains__ __len__ net poles
        drop copy tried tried_by an_order closed_list keeps is_closed_list is_possible comes order_with places needed""",
    ("several", None): """kinds_of find_curves find_bar fit_curves is_bar fit_together compare_drops can_share
        needed_states""",
    ("changes", None): """demand_change flow_change pole_change height_change fed_closing held_closing fed_opening
        held_opening merged""",
    ("scenes", None): "Scene Fed Held FedScene HeldScene",
    ("scenes", "Scene"): "net __eq__ __str__",
    ("scenes", "Fed"): "demands",
    ("scenes", "Held"): "poles readings",
    ("scenes", "FedScene"): "__init__ compare direction allows",
    ("scenes", "HeldScene"): "__init__ compare direction allows",
    ("texts", None): "read_scene",
    ("judge", None): "is_claim certificate_of is_certificate",
    ("board", None): "Board",
    ("board", "Board"): "__init__ scene demands poles ask undo changes assign trial tried_by",
}

# What stands directly below the classes of scenes.
BELOW = {"Scene": [], "Fed": [], "Held": [], "FedScene": ["Scene", "Fed"], "HeldScene": ["Scene", "Held"]}

WRONG = {
    "a long line": "x = 1  # " + "y" * 120,
    "a long file": "\n" * 400,
    "a long function": "def f(x):\n" + "    x = 1\n" * 40,
    "a tab": "def f():\n\treturn 1",
    "a strange sign": "x = '\u00e9'",
    "import of a module": "import math",
    "import of a star": "from surepipes.amounts import *",
    "import from elsewhere": "from fractions import Fraction",
    "import of another name": "from math import floor",
    "import as": "from math import gcd as common",
    "import with a dot": "from .amounts import Amount",
    "import not from the defining file": "from surepipes.curves import Amount",
    "import below": "x = 1\nfrom math import gcd",
    "a statement at module level": "for x in (1, 2):\n    pass",
    "a name bound twice": "x = 1\nx = 2",
    "several names at module level": "x, y = 1, 2",
    "a local name of an import": "from math import gcd\n\n\ndef f(gcd):\n    return gcd",
    "a local name of a builtin": "def f(id):\n    return id",
    "a function with the name of a builtin": "def hash(x):\n    return x",
    "a builtin that is not used": "def f(x):\n    return float(x)",
    "a name that is not there": "def f(x):\n    return y",
    "a read _": "def f(rows):\n    return [_ for _ in rows]",
    "a decorator": "def g(f):\n    return f\n\n\n@g\ndef h():\n    return 1",
    "a hash": "class A:\n    def __hash__(self):\n        return 1",
    "a class in a function": "def f():\n    class A:\n        pass\n    return A()",
    "a method twice": "class A:\n    def f(self):\n        return 1\n\n    def f(self, x):\n        return x",
    "__init__ that returns": "class A:\n    def __init__(self):\n        return None",
    "a float": "x = 1.5",
    "a quotient": "def f(x):\n    return x / 2",
    "a yielded import": "def f():\n    import math\n    return math",
    "async": "async def f():\n    return 1",
    "an augmented sum": "def f(x, y):\n    x += y\n    return x",
    "is": "def f(x, y):\n    return x is y",
    "an exponent": "def f(x):\n    return 2 ** x",
    "raise of a name": "def f(x):\n    raise x",
    "except everything": "def f(x):\n    try:\n        return x[0]\n    except Exception:\n        return 1",
    "except nothing": "def f(x):\n    try:\n        return x[0]\n    except:\n        return 1",
    "a method of builtin values": "def f(x):\n    return x.encode()",
    "a keyword": "def f(x):\n    return int(x, base=2)",
    "a generator expression": "def f(x):\n    return any(y for y in x)",
    "sorted": "def f(x):\n    return sorted(x)",
    "min": "def f(x, y):\n    return min(x, y)",
    "a word": "def typing(x):\n    return x",
    "a name that is not used": "def f(law):\n    return law",
    "a kept generator": "def f(x):\n    yield x\n\n\ndef g(x):\n    y = f(x)\n    return list(y)",
    "a generator as a value": "def f(x):\n    yield x\n\n\ndef g():\n    return f",
    "a generator in another call": "def f(x):\n    yield x\n\n\ndef g(x):\n    return len(f(x))",
    "a call beside a generator": "def f(x):\n    yield x\n\n\ndef g(x):\n    return list(f(str(x)))",
    "yield under try": "def f(x):\n    try:\n        yield x\n    except KeyError:\n        return",
    "yield as a value": "def f(x):\n    y = yield x\n    return y",
    "a kept view": "def f(x):\n    y = x.items()\n    return list(y)",
    "a returned zip": "def f(x):\n    return zip(x, x)",
    "reversed in len": "def f(x):\n    return len(reversed(x))",
    "a loop over a set": "def f(x):\n    return [str(y) for y in set(x)]",
    "a returned set": "def f(x):\n    return {x}",
    "a frozenset": "def f(x):\n    return len(frozenset(x))",
    "a list that is modified in its loop": "def f(x):\n    for y in x:\n        x.append(y)",
    "a dict that is modified in its loop": "def f(x):\n    for y, z in x.items():\n        x[z] = y",
    "a list that is modified behind enumerate": "def f(x):\n    for y, z in enumerate(x):\n        x[y] = z",
    "a star before a call": "def g(*x):\n    return x\n\n\ndef f(x):\n    return g(*list(x))",
    "items without iteration": "class A:\n    def __getitem__(self, at):\n        return at",
    "a long iteration": "class A:\n    def __iter__(self):\n        x = [1]\n        return iter(x)",
    "a property like a method": """class A:
    @property
    def far(self):
        return 1


class B:
    def far(self):
        return 1
""",
    "a method like an attribute": """class A:
    def __init__(self):
        self.far = 1

    def far(self):
        return 1
""",
    "a method without a first parameter": "class A:\n    def f(*rest):\n        return rest",
    "a product beside an iterated class": """from itertools import product


class A:
    def __init__(self, rows):
        self._rows = rows

    def __iter__(self):
        return iter(self._rows)

    def __len__(self):
        return len(self._rows)


def f(x):
    return list(product(x, x))
""",
    "an added literal": "def f(x):\n    x += 1\n    return x",
    "a hidden class": "class _A:\n    pass",
    "an operator that changes something": """class A:
    def __init__(self):
        self._rows = []

    def __contains__(self, x):
        self._rows = [x]
        return True
""",
    "a property that changes something": """class A:
    def __init__(self):
        self._rows = []

    @property
    def first(self):
        self._rows[0] = 1
        return 1
""",
    "a property that is assigned": """class A:
    @property
    def first(self):
        return 1


def f(x):
    x.first = 1
""",
    "a property like a method with a setter": """class A:
    @property
    def far(self):
        return 1

    @far.setter
    def far(self, value):
        self._far = value


class B:
    def far(self):
        return 1
""",
    "a call in __exit__": """class A:
    def __enter__(self):
        return self

    def __exit__(self, kind, value, trace):
        self._rows = list(self._before)
""",
    "an attribute far away in __exit__": """class A:
    def __enter__(self):
        return self

    def __exit__(self, kind, value, trace):
        self._shut()

    def _shut(self):
        self._rows = self._kept.rows
""",
    "two local names in __exit__": """class A:
    def __enter__(self):
        return self

    def __exit__(self, kind, value, trace):
        one = self._one
        two = self._two
        one._rows = two._rows
""",
    "a local name in a method that __exit__ calls": """class A:
    def __enter__(self):
        return self

    def __exit__(self, kind, value, trace):
        self._shut()

    def _shut(self):
        kept = self._kept
        self._rows = kept._rows
""",
    "with without a name": "def f(x):\n    with x():\n        return 1",
    "with over a name": "def f(x):\n    with x as y:\n        return y",
    "a comprehension in another one": "def f(x):\n    for y in x:\n        x = [[y for y in z] for z in x]",
    "much in a try": "def f(x):\n    try:\n        y = x[0]\n        return f(y)\n    except KeyError:\n        return 1",
    "a slice in a try": "def f(x):\n    try:\n        return f(x[1:])\n    except KeyError:\n        return 1",
    "a percent sign": "def f():\n    return '%'",
    "an escape": "def f():\n    return '\\r'",
}

# Rows of __exit__, rows of a method `_shut` of the same class, and which of all these rows, counted from 0, are refused.
EXITS = [
    ("pass", "pass", []),
    ("self._now = self._before", "pass", []),
    ("box = self._box; box._now = self._now; box._far = 0; self._now = box._before; self._box = box", "pass", []),
    ("self._now = self; self._far = None", "pass", []),
    ("self._shut()", "self._now = self._before; self._before = None", []),
    ("box = self._box; box._now = self._now; self._shut()", "self._now = self._before", []),
    ("self._shut()", "kept = self._kept", [1]),
    ("self._shut()", "kept = self._kept; self._before = kept._held; self._kept = kept._ahead", [1, 2, 3]),
    ("self._shut(); box = self._box; box._now = self._before", "kept = self._kept; self._before = kept._held", [3, 4]),
    ("box = self._box; self._shut(); box._now = self._before", "box = self._box; self._before = box._held", [3, 4]),
    ("box = self._box; self._shut()", "box._now = self._before", [2]),
    ("box = self._box; kept = self._kept", "pass", [1]),
    ("box = self._box; box._now = 1; box = self._kept", "pass", [2]),
    ("self = self._box", "pass", [0]),
    ("kind = self._box", "pass", [0]),
    ("box = self._box._far", "pass", [0]),
    ("box = self", "pass", [0]),
    ("box = kind = self._box", "pass", [0]),
    ("box = A()", "pass", [0]),
    ("box._now = 1; box = self._box", "pass", [0]),
    ("self._now = self._kept._held", "pass", [0]),
    ("self._box._now = self._before", "pass", [0]),
    ("self._now = kind", "pass", [0]),
    ("value._now = 1", "pass", [0]),
    ("self._now = -1", "pass", [0]),
    ("self._now = list(self._before)", "pass", [0]),
    ("self._now = self._before[0]", "pass", [0]),
    ("self._rows[0] = self._before", "pass", [0]),
    ("self._shut(1)", "pass", [0]),
    ("self._box._shut()", "pass", [0]),
    ("self._other()", "pass", [0]),
    ("self._rows.pop()", "pass", [0]),
    ("self._shut()", "self._shut()", [1]),
    ("self._shut()", "self._rows.pop()", [1]),
    ("del self._rows[0]", "pass", [0]),
    ("raise ValueError('x')", "pass", [0]),
]

RIGHT = '''"""A file."""

from math import gcd

from surepipes.amounts import Amount

LIMIT = 10 ** 60


class Box:
    """A box."""

    def __init__(self, rows):
        self._rows = list(rows)

    @property
    def first(self):
        """The type of the first one."""
        return self._rows[0]

    def __len__(self):
        return len(self._rows)

    def __iter__(self):
        return iter(self._rows)

    def __getitem__(self, at):
        return self._rows[at]

    @property
    def last(self):
        """The last one."""
        return self._rows[-1]

    @last.setter
    def last(self, value):
        self._rows = [*self._rows, value]

    def __setitem__(self, at, worth):
        self._rows[at] = worth

    def __enter__(self):
        self._before = self._rows
        return self

    def __exit__(self, kind, value, trace):
        self._shut()
        box = self._box
        box._rows = self._before

    def _shut(self):
        """It ends."""
        self._rows = self._before
        self._box = None

    @staticmethod
    def of_rows(*rows):
        """The box of these rows."""
        return Box(rows)


def numbered(box):
    """Yields each row with its number."""
    for at, row in enumerate(box):
        yield (at, row)


def waiting(box):
    """What is left."""
    left = [row for _, row in numbered(box)]
    found = {}
    while left:
        last = left.pop()
        for row in list(found):
            found[row] = {**found, last: row}
        found[last] = None
    rows = list(found)
    return [*rows, list(numbered(box)), Box.of_rows(*rows), len(set(rows)), {str(row) for row in rows} == {"a"}]


def told(box, *, far=False):
    """What is told."""
    if box.first is None:
        raise ValueError("it is\\n" + str(far))
    with Box(box) as held:
        held[0] = 1
    try:
        return told(held, far=True)
    except ValueError as error:
        raise KeyError("far") from error
    kept = sorted([str(row) for row in box.first])
    return max(len(kept), gcd(4, 6)) + len(sorted(set(kept))) + Amount(1).top
'''


class Language(unittest.TestCase):
    def test_the_files_keep_the_rules(self):
        for path in FILES:
            with self.subTest(path.name):
                self.assertEqual(language.faults(path.read_text(encoding="utf-8"), PACKAGE), [])

    def test_breaks_are_found(self):
        for name, text in WRONG.items():
            with self.subTest(name):
                self.assertNotEqual(language.faults(text, PACKAGE), [])

    def test_rows_of_exit(self):
        for leaving, shut, refused in EXITS:
            rows = [*leaving.split("; "), *shut.split("; ")]
            ahead = ["class A:", "    def __exit__(self, kind, value, trace):"]
            body = ["        " + row for row in rows]
            body.insert(len(leaving.split("; ")), "    def _shut(self):")
            tree = ast.parse("\n".join([*ahead, *body]))
            made = {node.name: node for node in tree.body[0].body}
            numbers = [node.lineno for method in made.values() for node in method.body]
            found = [numbers.index(row) for row, _ in language.exits(made)]
            self.assertEqual(sorted(found), refused, (leaving, shut))
            if refused:
                self.assertNotEqual(language.faults("\n".join([*ahead, *body]), PACKAGE), [])

    def test_nothing_is_found_where_nothing_is_wrong(self):
        self.assertEqual(language.faults(RIGHT, PACKAGE), [])

    def test_the_folder_holds_nothing_else(self):
        for path in FOLDER.rglob("*"):
            if "__pycache__" in path.parts:
                continue
            if path.is_dir():
                self.assertTrue((path / "__init__.py").is_file())
            else:
                self.assertEqual(path.suffix, ".py")
            self.assertRegex(path.stem, r"\A[a-z0-9_]+\Z")
        self.assertLessEqual(len(FILES), 100)
        self.assertIn(FOLDER / "__init__.py", FILES)

    def test_no_two_files_import_from_each_other(self):
        ahead = {module: {node.module for node in tree.body if isinstance(node, ast.ImportFrom)} & set(PACKAGE)
                 for module, tree in PACKAGE.items()}
        left = dict(ahead)
        while left:
            free = [module for module, needed in left.items() if not needed & set(left)]
            self.assertNotEqual(free, [], f"these import in a ring: {sorted(left)}")
            for module in free:
                del left[module]

    def test_python_gives_no_warning(self):
        for path in FILES:
            with warnings.catch_warnings():
                warnings.simplefilter("error")
                compile(path.read_text(encoding="utf-8"), str(path), "exec")

    def test_the_interface_stands_where_it_is_listed(self):
        for (module, holder), wanted in INTERFACE.items():
            body = PACKAGE[f"surepipes.{module}"].body
            if holder is not None:
                body = [node for node in body if isinstance(node, ast.ClassDef) and node.name == holder][0].body
            found = {node.name for node in body if isinstance(node, (ast.FunctionDef, ast.ClassDef))}
            self.assertLessEqual(set(wanted.split()), found)

    def test_what_stands_below_scenes(self):
        found = {node.name: [base.id for base in node.bases] for node in PACKAGE["surepipes.scenes"].body
                 if isinstance(node, ast.ClassDef)}
        self.assertEqual(found, BELOW)


if __name__ == "__main__":
    unittest.main()
