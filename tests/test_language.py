"""The rules of LANGUAGE.md that a script can look at: L1 to L28, as far as language_rules reads them."""

import os
import tempfile
import unittest

from tests import language_rules
from tests.language_rules import Source

FOLDER = os.path.join(os.path.dirname(os.path.dirname(os.path.abspath(__file__))), "splitbooks")

# Each line of code breaks the rule ahead of it; the rules have to tell so.
BROKEN = [
    ("L2", "import math\n"),
    ("L2", "from os import path\n"),
    ("L2", "from math import floor\n"),
    ("L2", "from splitbooks.books import *\n"),
    ("L2", "from . import books\n"),
    ("L2", "from splitbooks.books import Splitbook as Book\n"),
    ("L2", "def f(x):\n    from splitbooks.books import Splitbook\n    return x\n"),
    ("L2", "LIMIT = 1\nfrom splitbooks.books import Splitbook\n"),
    ("L16", "from splitbooks.books import BadBook\n"),
    ("L3", "print(1)\n"),
    ("L3", "A, B = 1, 2\n"),
    ("L3", "A = len([1])\n"),
    ("L3", "A = [k for k in (1, 2)]\n"),
    ("L15", "A = 1\nA = 2\n"),
    ("L15", "A = {1: 2}\n\n\ndef f(g):\n    return g(A)\n"),
    ("L15", "A = [1, 2]\n\n\ndef f():\n    return A\n"),
    ("L15", "A = [1, 2]\n\n\ndef f():\n    A.append(3)\n"),
    ("L15", "A = [1, 2]\n\n\ndef f():\n    A[0] = 3\n"),
    ("L15", "A = [1, 2]\n\n\ndef f(x):\n    return x + A\n"),
    ("L15", "from splitbooks.books import Splitbook\ndef f(Splitbook):\n    return 1\n"),
    ("L15", "def f(max):\n    return max\n"),
    ("L15", "def f():\n    hash = 1\n    return hash\n"),
    ("L4", "@cache\ndef f(x):\n    return x\n"),
    ("L4", "def f(x=[]):\n    return x\n"),
    ("L5", "class A:\n    def __hash__(self):\n        return 1\n"),
    ("L5", "class A(dict):\n    def f(self):\n        return 1\n"),
    ("L5", "class A:\n    print(1)\n"),
    ("L12", "class _A:\n    def f(self):\n        return 1\n"),
    ("L12", "def f():\n    __x = 1\n    return __x\n"),
    ("L18", "class A:\n    def f(self):\n        return 1\n    def f(self):\n        return 2\n"),
    ("L6", "async def f(x):\n    return x\n"),
    ("L7", "def f(x):\n    return x / 2\n"),
    ("L7", "def f(x):\n    return x * 0.5\n"),
    ("L7", "def f(xs):\n    return (x for x in xs)\n"),
    ("L7", "class A:\n    def __eq__(self, other):\n        return False\n\n\ndef f(xs):\n    return any(x for x in xs)\n"),
    ("L8", "def f(x):\n    return hash(x)\n"),
    ("L8", "def f(x):\n    return chr(x)\n"),
    ("L8", "def f(x):\n    return round(x)\n"),
    ("L10", "def f(x):\n" + "    x = 1\n" * 40),
    ("L10", "A = 1\n" + "\n" * 399),
    ("L10", "A = " + "1" * 120 + "\n"),
    ("L14", "A = 1  # \u00e9\n"),
    ("L14", "A = 1\t\n"),
    ("L17", "def f(elements):\n    return elements\n"),
    ("L17", "def f(x):\n    return x.type\n"),
    ("L17", "ABC = 1\n"),
    ("L17", "def f(vars):\n    return vars\n"),
    ("L19", "def f(x):\n    try:\n        return x[0]\n    except:\n        return 1\n"),
    ("L19", "def f(x):\n    try:\n        return x[0]\n    except Exception:\n        return 1\n"),
    ("L19", "def f(x):\n    raise x\n"),
    ("L20", "def f(x, y):\n    return x is y\n"),
    ("L22", "def f(x):\n    return list(sequence=x)\n"),
    ("L23", "def f(x):\n    return zip(x, x)\n"),
    ("L23", "def f(x):\n    return range(x)\n"),
    ("L23", "def f(x, n):\n    xs = (0,) if x else range(n)\n    return [x for x in xs]\n"),
    ("L23", "def f(x, n):\n    xs = zip(n, n) if x else [(0, 1)]\n    return list(xs)\n"),
    ("L23", "def f(x, n):\n    xs = [(0, 1)] if x else enumerate(n)\n    return list(xs)\n"),
    ("L23", "def f(x, n):\n    xs = reversed(n) if x else n\n    return list(xs)\n"),
    ("L23", "def f(x, n):\n    xs = n.items() if x else []\n    return list(xs)\n"),
    ("L23", "def f(x, n):\n    xs = n.keys() if x else n\n    return list(xs)\n"),
    ("L23", "def f(x, n):\n    xs = x or n.values()\n    return list(xs)\n"),
    ("L23", "def f(x, n):\n    for k in range(n) if x else (0,):\n        return k\n"),
    ("L23", "def f(n):\n    xs = range(n)\n    xs = [1]\n    return list(xs)\n"),
    ("L23", "def f(n):\n    xs = range(n)\n    return xs\n"),
    ("L23", "def f(n):\n    xs = range(n)\n    return [xs]\n"),
    ("L23", "def f(n):\n    xs = range(n)\n    return sum([k for k in xs]) if xs else 0\n"),
    ("L23", "def f(n):\n    xs = range(n)\n    return lambda x: x in xs\n"),
    ("L23", "def f(n):\n    xs = zip(n, n)\n    return list(xs) + list(xs)\n"),
    ("L23", "def f(n):\n    xs, ys = range(n), 1\n    return list(xs)\n"),
    ("L23", "class A:\n    def __init__(self, n):\n        self.n = range(n)\n"),
    ("L23", "def f(n):\n    return [range(n)]\n"),
    ("L23", "def f(n):\n    return len(zip(n, n))\n"),
    ("L24", "def f(x):\n    return {1, x}\n"),
    ("L25", "def f(x):\n    return x.format_map(x)\n"),
    ("L26", "class A:\n    def __init__(self):\n        self.items = 1\n"),
    ("L26", "class A:\n    def __init__(self):\n        self.center = 1\n"),
    ("L26", "class A:\n    def center(self):\n        return 1\n"),
    ("L7", "def f(xs):\n    return [x for x in zip(*xs[0])]\n"),
    ("L7", "def f(xs):\n    for x in xs:\n        xs = [[x for x in y] for y in xs]\n    return xs\n"),
    ("L23", "def f(xs):\n    for a, (b, (c, d)) in xs:\n        return a\n"),
    ("L27", "def f(x, y):\n    return x ** y\n"),
    ("L27", "A = \"100%\"\n"),
    ("L27", "A = \"__odd__\"\n"),
]

FINE = [
    "\"\"\"A file.\"\"\"\n\nfrom splitbooks.books import Splitbook\n\nLIMIT = 4\nNAMES = (\"a\", \"b\")\n",
    "def f(xs):\n    return [x for x in zip(xs, xs) if x is not None]\n",
    "def f(n):\n    return sum([k ** 2 for k in range(n)])\n",
    "class A:\n    def __init__(self, n):\n        self.n = n\n",
    "def f(n):\n    xs = range(n)\n    return [x for x in xs] + list(reversed(xs)) + [xs[0], len(xs), n in xs]\n",
    "def f(n):\n    xs = zip(n, n)\n    return [x for x in xs]\n",
    "A = {1: 2}\nB = (1, 2)\n\n\ndef f(g, n):\n    return [A[n], n in A, A.get(n), len(A), dict(A), g(B)] + [x for x in A]\n",
    "def f(n):\n    xs = n.items()\n    return [x for x in xs] + sorted(xs)\n",
    "def f(n, x):\n    xs = [0] if x else list(range(n))\n    return [x for x in xs if x in range(3)]\n",
    "def f(xs):\n    for a, (b, _) in xs:\n        xs = [[x for x in y] for y in zip(*xs)]\n    return xs\n",
]


class LanguageTest(unittest.TestCase):

    def test_package_keeps_the_rules(self):
        self.assertEqual(language_rules.package_faults(FOLDER), [])

    def test_nothing_is_imported_in_vain(self):
        for source in language_rules.read_package(FOLDER):
            self.assertEqual(language_rules.unused_imports(source), [])

    def test_broken_code_is_told(self):
        sources = language_rules.read_package(FOLDER)
        for rule, text in BROKEN:
            with self.subTest(rule=rule, text=text):
                source = Source("broken.py", text)
                told = language_rules.source_faults(source, sources + [source])
                self.assertIn(rule, [line.split()[0] for line in told])

    def test_fine_code_is_not_told(self):
        sources = language_rules.read_package(FOLDER)
        for text in FINE:
            with self.subTest(text=text):
                source = Source("fine.py", text)
                self.assertEqual(language_rules.source_faults(source, sources + [source]), [])

    def test_circles_are_told(self):
        one = Source("one.py", "from splitbooks.two import f\n")
        two = Source("two.py", "from splitbooks.one import g\n")
        first = Source("__init__.py", "")
        self.assertNotEqual(language_rules.circle_faults([first, one, two]), [])
        self.assertEqual(language_rules.circle_faults([first, one]), [])
        first = Source("__init__.py", "from splitbooks.one import f\n")
        one = Source("one.py", "from splitbooks.two import f\n")
        two = Source("two.py", "def f(x):\n    return x\n")
        self.assertNotEqual(language_rules.circle_faults([first, one, two]), [])

    def test_folder_is_looked_at(self):
        for name in ("notes.txt", "Upper.py", "two-words.py", "test_it.py", "len.py", "site.py", "math.py"):
            with self.subTest(name=name), tempfile.TemporaryDirectory() as folder:
                for each in ("__init__.py", name):
                    with open(os.path.join(folder, each), "w", encoding="utf-8"):
                        pass
                self.assertNotEqual(language_rules.folder_faults(folder), [])
        with tempfile.TemporaryDirectory() as folder:
            self.assertNotEqual(language_rules.folder_faults(folder), [])


if __name__ == "__main__":
    unittest.main()
