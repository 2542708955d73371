"""The package's files against the rules of the language, and the script that holds them against these."""

import os
import unittest

import longhold
from language import faults

FOLDER = os.path.dirname(os.path.abspath(longhold.__file__))


def package_files():
    files = {}
    for name in sorted(os.listdir(FOLDER)):
        # Python itself puts this folder there when it runs the files; it is not kept with them.
        if name != "__pycache__":
            with open(os.path.join(FOLDER, name), encoding="utf-8", newline="") as file:
                files[name] = file.read()
    return files


class Package(unittest.TestCase):
    def test_no_file_breaks_a_rule(self):
        self.assertEqual(faults(package_files(), "longhold"), [])

    def test_all_files_are_looked_at(self):
        named = {"__init__.py", "errors.py", "days.py", "facts.py", "course.py", "ways.py", "book.py", "roll.py"}
        self.assertLessEqual(named, set(package_files()))

    def test_files_that_end_as_files_of_rows_do(self):
        for name, text in package_files().items():
            self.assertTrue(text.endswith("\n") and not text.endswith("\n\n"), name)


# A rule, and a file that breaks it.
BROKEN = [
    ("L2", "import os\n"),
    ("L2", "from os import path\n"),
    ("L2", "from . import other\n"),
    ("L2", "from longhold.other import *\n"),
    ("L2", "from math import sqrt\n"),
    ("L2", "X = 1\nfrom longhold.other import told\n"),
    ("L3", "X = Y = 1\n"),
    ("L3", "X, Y = 1, 2\n"),
    ("L3", "X = [k for k in (1, 2)]\n"),
    ("L3", "if 1:\n    X = 1\n"),
    ("L4", "def f(a=[]):\n    return a\n"),
    ("L4", "def g(a):\n    return a\n\n\n@g\ndef f(a):\n    return a\n"),
    ("L5", "class A(int):\n    pass\n"),
    ("L6", "def f():\n    global X\n    X = 1\n"),
    ("L2", "import sys\n"),
    ("L6", "def f(a):\n    return a / 2\n"),
    ("L6", "async def f():\n    pass\n"),
    ("L7", "X = 1.5\n"),
    ("L7", "def f(a):\n    return a.encode()\n"),
    ("L8", "def f(a):\n    return pow(a, 2)\n"),
    ("L8", "def f(a):\n    return print(a)\n"),
    ("L8", "def f(a):\n    return chr(a)\n"),
    ("L8", "def f(a):\n    return a.__dict__\n"),
    ("L10", "X = 1" + " " * 120 + "\n"),
    ("L10", "X = 1\n" * 400),
    ("L10", "def f():\n" + "    f()\n" * 40),
    ("L10", "def f():\n\treturn 1\n"),
    ("L12", "def f(__a):\n    return 1\n"),
    ("L12", "def f(_):\n    return _\n"),
    ("L12", "class _A:\n    pass\n"),
    ("L14", "X = 1  # \u00e9\n"),
    ("L14", "X = 1\r\n"),
    ("L15", "X = 1\nX = 2\n"),
    ("L15", "X = [[1], [2]]\n"),
    ("L15", "def f(list):\n    return list\n"),
    ("L15", "def f(hash):\n    return hash\n"),
    ("L15", "def f():\n    id = 1\n    return id\n"),
    ("L15", "from longhold.other import told\n\n\ndef f(told):\n    return told\n"),
    ("L16", "from longhold.other import absent\n"),
    ("L17", "def f(a):\n    return a.register\n"),
    ("L17", "def f(law):\n    return law\n"),
    ("L17", "def f():\n    return 'enum'\n"),
    ("L18", "class A:\n    def f(self):\n        pass\n\n    def f(self):\n        pass\n"),
    ("L19", "def f():\n    try:\n        f()\n    except Exception:\n        pass\n"),
    ("L19", "def f():\n    try:\n        f()\n    except:\n        pass\n"),
    ("L19", "def f(a):\n    raise a\n"),
    ("L20", "def f(a, b):\n    return a is b\n"),
    ("L22", "def f(a):\n    return int(a, base=2)\n"),
    ("L23", "def f(a):\n    return zip(a, a)\n"),
    ("L23", "def f(a):\n    for k in a:\n        a.append(k)\n"),
    ("L23", "def f(a):\n    for k, b in enumerate(a):\n        a[k] = b\n"),
    ("L24", "def f(a):\n    return {k for k in a}\n"),
    ("L24", "def f(a):\n    return set(a)\n"),
    ("L25", "def f(a):\n    return a.bit_count()\n"),
    ("L25", "def f(a):\n    return a.split(sep=1)\n"),
    ("L26", "class A:\n    def decode(self):\n        return 1\n"),
    ("L27", "X = '%'\n"),
    ("L27", "X = '\\r'\n"),
    ("L27", "def f(n):\n    return 2 ** n\n"),
    ("L27", "X = '__odd__'\n"),
    ("L27", "def f(a):\n    return 1if a else 2\n"),
    ("L28", "class A:\n    def __init__(self):\n        return None\n"),
]


class Script(unittest.TestCase):
    OTHER = {"other.py": "def told(x):\n    return x\n"}

    def test_each_broken_rule_is_seen(self):
        for rule, text in BROKEN:
            with self.subTest(text[:60]):
                found = faults({"file.py": text, **self.OTHER}, "longhold")
                self.assertIn(rule, [row[2] for row in found])

    def test_names_of_files(self):
        for name in ["Days.py", "days.txt", "two words.py", ".days.py"]:
            self.assertIn("L1", [row[2] for row in faults({name: ""}, "longhold")], name)
        for name in ["test_days.py", "tests.py", "len.py", "enum.py"]:
            self.assertIn("L14", [row[2] for row in faults({name: ""}, "longhold")], name)

    def test_files_that_import_from_each_other(self):
        files = {
            "one.py": "from longhold.two import b\n\n\ndef a():\n    return b()\n",
            "two.py": "from longhold.one import a\n\n\ndef b():\n    return a()\n",
        }
        self.assertIn("L16", [row[2] for row in faults(files, "longhold")])

    def test_a_file_that_breaks_none(self):
        text = (
            '"""A docstring may say type and enum."""\n\n'
            "from heapq import heappush\n\nfrom longhold.other import told\n\n"
            'TABLE = {"a": (1, 2), "b": (3,)}\n\n\n'
            "class Box:\n    def __init__(self, rows):\n        self.rows = list(rows)\n\n"
            "    def many(self):\n        return len(self.rows)\n\n\n"
            "def f(rows, word=None):\n"
            "    first, *rest = rows\n"
            "    for at, row in enumerate(rest):\n"
            "        heappush(rest[:], (at, row))\n"
            "    seen = set(rows)\n"
            '    return first is None, sorted({k for k in rows}), told(word) in seen, ", ".join(TABLE)\n'
        )
        self.assertEqual(faults({"file.py": text, **self.OTHER}, "longhold"), [])


if __name__ == "__main__":
    unittest.main()
