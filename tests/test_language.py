"""The package's files keep to the project's part of Python, and the looker sees what doesn't."""

import os
import unittest

import language

FOLDER = os.path.join(os.path.dirname(os.path.dirname(os.path.abspath(__file__))), "sideloom")

GOOD = '''"""A file."""

from sideloom.errors import NoWord

WORDS = ("one", "two")
FEW = {"one": 1, "two": -2}


def place(word, otherwise=None):
    """Why, not what."""
    if word not in FEW:
        raise NoWord(f"no word: {word!r}")
    rows = [row * 2 ** 3 for row in range(FEW[word]) if row > 0]
    others = list(rows)
    for number, row in enumerate(rows):
        otherwise = row % 3 + number
        others[number] = sorted(rows, key=lambda x: -x, reverse=True)
    try:
        place(others, lambda x: x)
    except NoWord as e:
        raise NoWord("no word") from e
    return tuple(reversed(rows)) if otherwise is None else sorted(set(rows))
'''

BAD = (
    ("L2", "import os\n"),
    ("L2", "from .errors import NoWord\n"),
    ("L2", "def f():\n    from sideloom.errors import NoWord\n    return NoWord\n"),
    ("L3", "if True:\n    pass\n"),
    ("L3", "FEW = [x for x in (1, 2)]\n"),
    ("L4", "def f(*many):\n    return many\n"),
    ("L4", "@f\ndef g():\n    return 1\n"),
    ("L5", "class A:\n    value = 1\n"),
    ("L6", "def f(x):\n    assert x\n"),
    ("L6", "def f(xs):\n    for x in xs:\n        pass\n    else:\n        pass\n"),
    ("L6", "def f(xs):\n    a = b = xs\n    return a\n"),
    ("L6", "def f(xs):\n    xs\n"),
    ("L7", "def f(x):\n    return x / 2\n"),
    ("L7", "def f(x):\n    return 1.5\n"),
    ("L7", "def f(x):\n    return b'1'\n"),
    ("L7", "def f(x):\n    return {y: y for y in x}\n"),
    ("L7", "def f(x):\n    return f'{x:3}'\n"),
    ("L8", "def f(x):\n    return pow(x, 2)\n"),
    ("L10", "def f(x):\n" + "    x = x + 1\n" * 40 + "    return x\n"),
    ("L10", "x = '" + "a" * 120 + "'\n"),
    ("L12", "def f(xs):\n    return [1 for _ in xs]\n"),
    ("L13", "def f():\n    return (lambda x: x, lambda x: -x)\n"),
    ("L13", "def f():\n    return len({1, 2, 3})\n"),
    ("L14", "x = '\u00e9'\n"),
    ("L15", "x = 1\nx = 2\n"),
    ("L15", "def f(hash):\n    return hash\n"),
    ("L15", "XS = [1, 2]\n\n\ndef f():\n    return XS\n"),
    ("L15", "XS = [1, 2]\n\n\ndef f():\n    XS.append(3)\n"),
    ("L16", "from sideloom.errors import NoSuchName\n"),
    ("L17", "# the type of it\n"),
    ("L17", "def open(x):\n    return x\n"),
    ("L18", "from sideloom.errors import NoWord\n\n\ndef f():\n    return NoWord\n"),
    ("L18", "from sideloom.errors import NoWord\n\n\ndef f():\n    return [NoWord]\n"),
    ("L19", "def f(x):\n    try:\n        x()\n    except Exception:\n        pass\n"),
    ("L19", "def f(x):\n    raise x\n"),
    ("L20", "def f(x, y):\n    return x is y\n"),
    ("L21", "def f(x: int):\n    return x\n"),
    ("L22", "def f(x):\n    y = len\n    return y(x)\n"),
    ("L22", "def f(x):\n    return sum([x], begin=1)\n"),
    ("L22", "def f(x):\n    return x.split(sep=',')\n"),
    ("L23", "def f(x):\n    y = range(x)\n    return y\n"),
    ("L23", "def f(xs):\n    for x in xs:\n        xs.append(x)\n"),
    ("L23", "def f(xs):\n    for k, x in enumerate(xs):\n        xs[k] = x\n"),
    ("L23", "def f(xs):\n    for k, x in xs.items():\n        xs.pop(k)\n"),
    ("L24", "def f(x):\n    y = set(x)\n    return y\n"),
    ("L25", "def f(x):\n    x.sort()\n"),
    ("L26", "class A:\n    def __init__(self, items):\n        self.items = items\n"),
    ("L27", "def f(n):\n    return 2 ** n\n"),
    ("L27", "def f(n):\n    return chr(n)\n"),
    ("L27", "x = '\\x41'\n"),
    ("L27", "x = '50%'\n"),
    ("L28", "class A:\n    def __init__(self):\n        return None\n"),
)


def package_sources():
    sources = {}
    for name in sorted(os.listdir(FOLDER)):
        # Python puts this folder there by itself; it is no part of the project.
        if name != "__pycache__":
            with open(os.path.join(FOLDER, name), encoding="ascii") as file:
                sources[name] = file.read()
    return sources


class Language(unittest.TestCase):
    def test_the_package_keeps_to_the_rules(self):
        self.assertEqual(language.faults(package_sources()), [])

    def test_the_package_has_its_files(self):
        for name in ("__init__.py", "errors.py", "figures.py", "sides.py", "tables.py", "rules.py", "moves.py",
                     "lifting.py", "folding.py", "views.py", "forms.py", "writing.py", "reading.py", "checking.py",
                     "plain.py", "needs.py", "tidy.py", "trees.py", "weave.py", "bench.py", "costs.py", "whole.py"):
            self.assertIn(name, package_sources())

    def test_good_code_has_no_fault(self):
        sources = package_sources()
        sources["more.py"] = GOOD
        self.assertEqual(language.faults(sources), [])

    def test_bad_code_is_seen(self):
        for rule, text in BAD:
            with self.subTest(rule=rule, text=text):
                sources = package_sources()
                sources["more.py"] = text
                self.assertIn(rule, [fault[0] for fault in language.faults(sources)])

    def test_files_that_draw_from_one_another_are_seen(self):
        sources = package_sources()
        sources["more.py"] = "from sideloom.less import y\n\nx = 1\n"
        sources["less.py"] = "from sideloom.more import x\n\ny = 1\n"
        self.assertIn("L16", [fault[0] for fault in language.faults(sources)])

    def test_file_names_are_seen(self):
        for rule, name in (("L1", "More.py"), ("L1", "more.txt"), ("L14", "tests.py"), ("L14", "len.py")):
            sources = package_sources()
            sources[name] = ""
            self.assertIn(rule, [fault[0] for fault in language.faults(sources)])


if __name__ == "__main__":
    unittest.main()
