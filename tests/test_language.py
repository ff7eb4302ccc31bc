"""The rules of ../shared/LANGUAGE.md hold for the files of the package."""
import pathlib
import unittest

from tests.language import package_faults

PACKAGE = pathlib.Path(__file__).resolve().parent.parent / "roundlist"

# One file each, with the rule that it breaks.
BROKEN = [
    ("L2", "def f():\n    return 1\n\n\nfrom pack.good import good\n"),
    ("L2", "def f():\n    from pack.good import good\n    return good\n"),
    ("L2", "from random import choice\n"),
    ("L2", "from itertools import count\n"),
    ("L2", "from pack.good import *\n"),
    ("L2", "from .good import good\n"),
    ("L3", "good = 1\ngood += 1\n"),
    ("L3", "one, two = 1, 2\n"),
    ("L3", "n = len([])\n"),
    ("L3", "xs = [x for x in ()]\n"),
    ("L3", "for x in ():\n    pass\n"),
    ("L4", "from pack.good import good\n\n\n@good\ndef f():\n    return 1\n"),
    ("L5", "class A:\n    def __hash__(self):\n        return 1\n"),
    ("L5", "class A(metaclass=B):\n    pass\n"),
    ("L6", "async def f():\n    return 1\n"),
    ("L7", "def f(x):\n    return x / 2\n"),
    ("L7", "def f(x):\n    return x * 0.5\n"),
    ("L8", "def f(x):\n    return hash(x)\n"),
    ("L8", "def f(x):\n    print(x)\n"),
    ("L10", "def f():\n" + "    pass\n" * 40),
    ("L10", "# a\n" * 400),
    ("L10", "# " + "a" * 119 + "\n"),
    ("L12", "def f(_):\n    return _\n"),
    ("L12", "def f(__x):\n    return 1\n"),
    ("L14", "def f():\n\treturn 1\n"),
    ("L14", "# \u00e9\n"),
    ("L15", "n = 1\nn = 2\n"),
    ("L15", "def f(xs):\n    for round in xs:\n        pass\n"),
    ("L15", "def f(id):\n    return 1\n"),
    ("L16", "import sys\n"),
    ("L16", "from pack.good import missing\n"),
    ("L17", "def f(law):\n    return 1\n"),
    ("L17", "from enum import Enum\n"),
    ("L18", "def f():\n    class A:\n        pass\n    return A()\n"),
    ("L19", "def f():\n    try:\n        return 1\n    except Exception:\n        return 2\n"),
    ("L19", "def f():\n    try:\n        return 1\n    except:\n        return 2\n"),
    ("L19", "def f():\n    raise ValueError\n"),
    ("L20", "def f(a, b):\n    return a is b\n"),
    ("L21", "def f():\n    n: int\n    return 1\n"),
    ("L24", "def f(xs):\n    return [x for x in set(xs)]\n"),
    ("L25", "def f(x):\n    return x.isoformat()\n"),
]


class LanguageTest(unittest.TestCase):
    def test_the_package_keeps_the_rules(self):
        files = {f"roundlist/{path.relative_to(PACKAGE).as_posix()}": path.read_text("utf-8")
                 for path in PACKAGE.rglob("*.py")}
        self.assertIn("roundlist/__init__.py", files)
        self.assertEqual(package_faults(files), [])

    def test_the_package_holds_nothing_but_its_files(self):
        others = [path.name for path in PACKAGE.rglob("*")
                  if path.suffix != ".py" and not path.is_dir() and path.parent.name != "__pycache__"]
        self.assertEqual(others, [])
        for folder in PACKAGE.rglob("*"):
            if folder.is_dir() and folder.name != "__pycache__":
                self.assertTrue((folder / "__init__.py").is_file())

    def test_what_breaks_a_rule_is_found(self):
        for rule, text in BROKEN:
            with self.subTest(rule=rule, text=text[:60]):
                files = {"pack/__init__.py": "", "pack/good.py": "good = 1\n", "pack/bad.py": text}
                found = package_faults(files)
                self.assertIn(rule, [fault.split(" ")[0] for fault in found])

    def test_files_that_import_from_each_other_are_found(self):
        files = {
            "pack/__init__.py": "",
            "pack/one.py": "from pack.two import two\n\none = 1\n",
            "pack/two.py": "from pack.one import one\n\ntwo = 2\n",
        }
        self.assertEqual([fault.split(" ")[0] for fault in package_faults(files)], ["L16", "L16"])

    def test_what_keeps_the_rules_is_let_by(self):
        files = {
            "pack/__init__.py": '"""A package."""\n',
            "pack/good.py": '"""A file."""\nfrom heapq import heappop\n\nLIMIT = 2 ** 4\n\n\n'
                            'class Box:\n    def __init__(self, rows):\n        self.rows = list(rows)\n\n'
                            '    @property\n    def many(self):\n        return len(self.rows)\n\n'
                            '    def take(self):\n        return heappop(self.rows)\n',
            "pack/more.py": 'from pack.good import LIMIT, Box\n\n\ndef f(x):\n    try:\n'
                            '        return Box([x]).take() if type(x) is int and x < LIMIT else None\n'
                            '    except KeyError:\n        raise ValueError("no")\n',
        }
        self.assertEqual(package_faults(files), [])


if __name__ == "__main__":
    unittest.main()
