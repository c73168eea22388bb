import ast
import os
import unittest

from tests.form import PACKAGE, classes_of, cycles, defined, faults

FOLDER = os.path.join(os.path.dirname(os.path.dirname(os.path.abspath(__file__))), PACKAGE)


def texts():
    found = {}
    for path in sorted(os.listdir(FOLDER)):
        if path.endswith(".py"):
            with open(os.path.join(FOLDER, path), encoding="utf-8") as file:
                found[path] = file.read()
    return found


class Package(unittest.TestCase):
    def test_only_program_files_lie_in_it(self):
        others = [path for path in os.listdir(FOLDER) if not path.endswith(".py") and path != "__pycache__"]
        self.assertEqual(others, [])
        self.assertIn("__init__.py", os.listdir(FOLDER))

    def test_the_files_keep_to_the_rules(self):
        for path, text in texts().items():
            with self.subTest(path):
                self.assertEqual(faults(path, text, classes_of(texts())), [])

    def test_no_two_files_draw_from_one_another(self):
        self.assertEqual(cycles(texts()), [])

    def test_each_name_is_drawn_from_the_file_that_defines_it(self):
        for path, text in texts().items():
            for node in ast.parse(text).body:
                if isinstance(node, ast.ImportFrom):
                    with self.subTest(path=path, row=node.lineno):
                        source = texts()[node.module[len(PACKAGE) + 1:] + ".py"]
                        self.assertLessEqual({name.name for name in node.names}, defined(source))

    def test_no_name_is_a_method_and_a_value(self):
        found = classes_of(texts())
        self.assertIn("bit", found["methods"])
        self.assertIn("first", found["values"])
        self.assertEqual(found["methods"] & found["values"], set())


class Reader(unittest.TestCase):
    WRONG = [
        ("L2", "import math\n"), ("L2", "from time import time\n"), ("L2", "from random import random\n"),
        ("L2", "from ladderworth.errors import *\n"), ("L2", "from .errors import NoGame\n"),
        ("L3", "print(1)\n"), ("L3", "x = [len]()\n"), ("L3", "x = [[1]]\n"),
        ("L4", "def f(*a):\n    return a\n"), ("L4", "@f\ndef g():\n    return 1\n"), ("L4", "def f(a=[]):\n    return a\n"),
        ("L5", "class A:\n    x = 1\n"), ("L5", "class A(B, C):\n    pass\n"),
        ("L6", "def f(a):\n    assert a\n"), ("L6", "def f(a):\n    b = c = a\n"), ("L6", "def f(a):\n    b, c = a\n"),
        ("L6", "def f(a):\n    for b in a:\n        pass\n    else:\n        pass\n"),
        ("L6", "def f():\n    'said'\n"), ("L6", "def f(a):\n    with a:\n        pass\n"),
        ("L7", "def f(a):\n    return a / 2\n"), ("L7", "def f():\n    return 0.5\n"), ("L7", "def f():\n    return b'a'\n"),
        ("L7", "def f(a):\n    return all(b for b in a)\n"), ("L7", "def f(a):\n    return {b: 1 for b in a}\n"),
        ("L7", "def f(a):\n    return f'{a + 1}'\n"), ("L7", "def f(a):\n    return [*a]\n"),
        ("L7", "def f(a):\n    return [c for b in a for c in b]\n"),
        ("L8", "def f(a):\n    return print(a)\n"), ("L8", "def f(a):\n    return chr(a)\n"),
        ("L10", "x = '" + "a" * 120 + "'\n"), ("L10", "def f():\n" + "    g()\n" * 40), ("L10", "\n" * 401),
        ("L12", "def _f():\n    return 1\n"), ("L12", "def f(_a):\n    return 1\n"),
        ("L14", "x = '\u00e4'\n"), ("L14", "x = 1\t\n"),
        ("L15", "def f(id):\n    return 1\n"), ("L15", "def f():\n    sum = 1\n"), ("L15", "x = 1\nx = 2\n"),
        ("L15", "from ladderworth.errors import a\n\n\ndef f(a):\n    return 1\n"),
        ("L15", "x = [1]\n\n\ndef f():\n    return x\n"), ("L15", "x = {}\n\n\ndef f():\n    x[1] = 2\n"),
        ("L15", "x = []\n\n\ndef f():\n    x.append(2)\n"), ("L15", "x = {}\n\n\ndef f(g):\n    return g(x)\n"),
        ("L17", "# its type\n"), ("L17", "def f(a):\n    return a.open\n"), ("L17", "def f(a):\n    return getattr(a, 'b')\n"),
        ("L19", "def f():\n    try:\n        g()\n    except Exception:\n        pass\n"),
        ("L20", "def f(a, b):\n    return a is b\n"), ("L21", "def f(a: int):\n    return a\n"),
        ("L22", "def f(a):\n    return int(a, base=2)\n"), ("L25", "def f(a):\n    return a.casefold()\n"),
        ("L23", "def f(a):\n    return zip(a, a)\n"), ("L23", "def f(a):\n    b = a.items()\n    return len(b)\n"),
        ("L23", "def f(a):\n    return dict(a, enumerate(a))\n"), ("L23", "def f(a):\n    return max(0, range(a))\n"),
        ("L24", "def f(a):\n    return set(a)\n"), ("L24", "def f(a):\n    return [b for b in set(a)]\n"),
        ("L24", "def f(a):\n    b = {a}\n    return 1\n"), ("L24", "def f(a):\n    return sorted(set(a), key=len)\n"),
        ("L24", "def f(a):\n    return list(set(a))\n"),
        ("L27", "def f(a):\n    return 2 ** a\n"), ("L27", "x = '%'\n"),
        ("L13", "def f(a):\n    return a == {1, 2, 3}\n"), ("L13", "def f(a):\n    return a(lambda b: 1, lambda b: 2)\n"),
        ("L18", "class A:\n    pass\n\n\ndef f():\n    return A\n"), ("L18", "def f():\n    return [ValueError]\n"),
        ("L18", "class A:\n    def f(self):\n        pass\n\n\nclass B(A):\n    def g(self):\n        A.f(self)\n"),
        ("L18", "class A:\n    def f(self):\n        pass\n\n    def f(self):\n        pass\n"),
        ("L18", "class A:\n    pass\n\n\ndef f():\n    A.b = 1\n"), ("L18", "def f(a):\n    a.b.c = 1\n"),
        ("L23", "def f(a):\n    for b in a:\n        a.append(b)\n"), ("L23", "def f(a):\n    for b in a:\n        a[0] = b\n"),
        ("L23", "def f(a):\n    for b, c in a.items():\n        a.pop(b)\n"),
        ("L23", "def f(a):\n    for b, c in enumerate(a.b):\n        a.b.clear()\n"),
        ("L26", "class A:\n    def title(self):\n        pass\n"), ("L26", "def f(a):\n    a.items = 1\n"),
        ("L26", "def f(a):\n    a.args = 1\n"), ("L28", "class A:\n    def __init__(self):\n        return None\n"),
        ("L28", "class A:\n    def __len__(self):\n        return 1\n"),
    ]

    def test_what_is_wrong_is_seen(self):
        for rule, text in self.WRONG:
            with self.subTest(rule=rule, text=text):
                self.assertIn(rule, [found[0] for found in faults("some.py", text)])

    def test_what_is_right_is_not(self):
        for row in ("sorted(set(a))", "len(set(a) - set(a))", "set(a) == set(a)", "a in set(a)", "dict(zip(a, a))",
                    "[b for b in a.items()]", "max(range(a))", "list(reversed(a))", "', '.join(a.keys())"):
            with self.subTest(row):
                self.assertEqual(faults("some.py", "def f(a):\n    return " + row + "\n"), [])

    def test_lists_and_dicts_of_the_top_that_are_read_are_not(self):
        for row in ("x[a]", "a in x", "x.get(a)", "[b for b in x]", "list(x)", "len(x)", "x[a](a)", "a == x"):
            with self.subTest(row):
                self.assertEqual(faults("some.py", "x = {'b': 1}\n\n\ndef f(a):\n    return " + row + "\n"), [])

    def test_right_classes_are_not(self):
        for text in ("class A:\n    def __init__(self, b):\n        self.b = b\n\n    def get(self):\n        return self.b\n\n\n"
                     "class C(A):\n    def __init__(self):\n        A.__init__(self, 1)\n\n\ndef f():\n    return C().get()\n",
                     "class A(ValueError):\n    pass\n\n\ndef f(a):\n    try:\n        g(a)\n    except (A, KeyError):\n"
                     "        raise A('said') from None\n    return isinstance(a, (A, int))\n",
                     "def f(a):\n    for b in list(a):\n        a.pop(b)\n"):
            with self.subTest(text):
                self.assertEqual(faults("some.py", text), [])

    def test_wrong_file_names_are_seen(self):
        for path in ("Some.py", "sum.py", "a-b.py", "_a.py"):
            self.assertIn("L14", [found[0] for found in faults(path, "")])

    def test_cycles_are_seen(self):
        self.assertEqual(cycles({
            "a.py": "from ladderworth.b import x\n", "b.py": "from ladderworth.c import x\n",
            "c.py": "from ladderworth.a import x\n", "d.py": "from ladderworth.a import x\n"}), ["a.py", "b.py", "c.py"])


if __name__ == "__main__":
    unittest.main()
