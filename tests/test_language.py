"""The files of the package keep the rules of ../shared/LANGUAGE.md."""

import ast
import unittest
import warnings
from pathlib import Path

import language

FOLDER = Path(__file__).resolve().parent.parent / "surepipes"
FILES = sorted(FOLDER.rglob("*.py"))


def module_of(path):
    return ".".join(path.relative_to(FOLDER.parent).with_suffix("").parts)


PACKAGE = {module_of(path): ast.parse(path.read_text(encoding="utf-8")) for path in FILES}

# The methods of the interface that stand in the body of the class itself, and in which file the class stands.
INTERFACE = {
    ("amounts", None): "is_integer is_name is_amount amount_of Amount",
    ("amounts", "Amount"): """__init__ top bottom sign __add__ __radd__ __sub__ __rsub__ __mul__ __rmul__ __neg__
        __abs__ __bool__ over __lt__ __le__ __gt__ __ge__ __eq__ __str__ __repr__ sum_of read""",
    ("curves", None): "Curve",
    ("curves", "Curve"): """__init__ __call__ back points corners is_straight conductance turned __add__ __or__ __eq__
        straight""",
}

WRONG = {
    "a long line": "x = 1  # " + "y" * 120,
    "a long file": "\n" * 400,
    "a long function": "def f(x):\n" + "    x = 1\n" * 40,
    "a tab": "def f():\n\treturn 1",
    "a strange sign": "x = '\u00e9'",
    "import of a module": "import math",
    "import of a star": "from surepipes.amounts import *",
    "import from elsewhere": "from fractions import Fraction",
    "import of another name": "from math import floor",
    "import as": "from math import gcd as common",
    "import with a dot": "from .amounts import Amount",
    "import not from the defining file": "from surepipes.curves import Amount",
    "import below": "x = 1\nfrom math import gcd",
    "a statement at module level": "for x in (1, 2):\n    pass",
    "a name bound twice": "x = 1\nx = 2",
    "several names at module level": "x, y = 1, 2",
    "a local name of an import": "from math import gcd\n\n\ndef f(gcd):\n    return gcd",
    "a local name of a builtin": "def f(id):\n    return id",
    "a function with the name of a builtin": "def hash(x):\n    return x",
    "a builtin that is not used": "def f(x):\n    return float(x)",
    "a name that is not there": "def f(x):\n    return y",
    "a read _": "def f(rows):\n    return [_ for _ in rows]",
    "a decorator": "def g(f):\n    return f\n\n\n@g\ndef h():\n    return 1",
    "a hash": "class A:\n    def __hash__(self):\n        return 1",
    "a class in a function": "def f():\n    class A:\n        pass\n    return A()",
    "a method twice": "class A:\n    def f(self):\n        return 1\n\n    def f(self, x):\n        return x",
    "__init__ that returns": "class A:\n    def __init__(self):\n        return None",
    "a float": "x = 1.5",
    "a quotient": "def f(x):\n    return x / 2",
    "a yielded import": "def f():\n    import math\n    return math",
    "async": "async def f():\n    return 1",
    "an augmented sum": "def f(x, y):\n    x += y\n    return x",
    "is": "def f(x, y):\n    return x is y",
    "an exponent": "def f(x):\n    return 2 ** x",
    "raise of a name": "def f(x):\n    raise x",
    "except everything": "def f(x):\n    try:\n        return x[0]\n    except Exception:\n        return 1",
    "except nothing": "def f(x):\n    try:\n        return x[0]\n    except:\n        return 1",
    "a method of builtin values": "def f(x):\n    return x.encode()",
    "a keyword": "def f(x):\n    return int(x, base=2)",
    "a generator expression": "def f(x):\n    return any(y for y in x)",
    "sorted": "def f(x):\n    return sorted(x)",
    "min": "def f(x, y):\n    return min(x, y)",
    "a word": "def typing(x):\n    return x",
    "a name that is not used": "def f(law):\n    return law",
    "a percent sign": "def f():\n    return '%'",
    "an escape": "def f():\n    return '\\r'",
}

RIGHT = '''"""A file."""

from math import gcd

from surepipes.amounts import Amount

LIMIT = 10 ** 60


class Box:
    """A box."""

    def __init__(self, rows):
        self._rows = list(rows)

    @property
    def first(self):
        """The type of the first one."""
        return self._rows[0]

    def __len__(self):
        return len(self._rows)


def told(box, *, far=False):
    """What is told."""
    if box.first is None:
        raise ValueError("it is\\n" + str(far))
    kept = sorted([str(row) for row in box.first])
    return max(len(kept), gcd(4, 6)) + len(sorted(set(kept))) + Amount(1).top
'''


class Language(unittest.TestCase):
    def test_the_files_keep_the_rules(self):
        for path in FILES:
            with self.subTest(path.name):
                self.assertEqual(language.faults(path.read_text(encoding="utf-8"), PACKAGE), [])

    def test_breaks_are_found(self):
        for name, text in WRONG.items():
            with self.subTest(name):
                self.assertNotEqual(language.faults(text, PACKAGE), [])

    def test_nothing_is_found_where_nothing_is_wrong(self):
        self.assertEqual(language.faults(RIGHT, PACKAGE), [])

    def test_the_folder_holds_nothing_else(self):
        for path in FOLDER.rglob("*"):
            if "__pycache__" in path.parts:
                continue
            if path.is_dir():
                self.assertTrue((path / "__init__.py").is_file())
            else:
                self.assertEqual(path.suffix, ".py")
            self.assertRegex(path.stem, r"\A[a-z0-9_]+\Z")
        self.assertLessEqual(len(FILES), 100)
        self.assertIn(FOLDER / "__init__.py", FILES)

    def test_no_two_files_import_from_each_other(self):
        ahead = {module: {node.module for node in tree.body if isinstance(node, ast.ImportFrom)} & set(PACKAGE)
                 for module, tree in PACKAGE.items()}
        left = dict(ahead)
        while left:
            free = [module for module, needed in left.items() if not needed & set(left)]
            self.assertNotEqual(free, [], f"these import in a ring: {sorted(left)}")
            for module in free:
                del left[module]

    def test_python_gives_no_warning(self):
        for path in FILES:
            with warnings.catch_warnings():
                warnings.simplefilter("error")
                compile(path.read_text(encoding="utf-8"), str(path), "exec")

    def test_the_interface_stands_where_it_is_listed(self):
        for (module, holder), wanted in INTERFACE.items():
            body = PACKAGE[f"surepipes.{module}"].body
            if holder is not None:
                body = [node for node in body if isinstance(node, ast.ClassDef) and node.name == holder][0].body
            found = {node.name for node in body if isinstance(node, (ast.FunctionDef, ast.ClassDef))}
            self.assertLessEqual(set(wanted.split()), found)


if __name__ == "__main__":
    unittest.main()
