"""The files of the package keep to LANGUAGE.md, as far as a script can see it."""

import ast
import unittest

from tests import interface, language


class Language(unittest.TestCase):
    def test_no_faults(self):
        self.assertEqual(language.faults(), [])

    def test_faults_are_seen(self):
        """A check that sees nothing would be no check."""
        samples = {
            "import os\n": "L16", "from os import path\n": "L2", "A = [x for x in (1,)]\n": "L3",
            "def f(x):\n    return x / 2\n": "L7", "def f(x):\n    return 2 ** x\n": "L27",
            "def f(x):\n    return x is 3\n": "L20", "def f(hash):\n    return hash\n": "L15",
            "def f(x):\n    global A\n": "L6", "def f(x):\n    return any(y for y in x)\n": "L7",
            "def f(x):\n    return {1, 2, 3}\n": "L13", "def f(x):\n    for y in x:\n        x.append(y)\n": "L23",
            "def f(x):\n" + "    x += 1\n" * 40: "L10", "A = '" + "a" * 120 + "'\n": "L10", "A = 'type'\n": "L17",
            "def f(x):\n    x.mro = 1\n": "L17", "def f(x):\n    return x.format()\n": "L17",
            "def f(x):\n    return '%'\n": "L27", "def f(x):\n    return zip(x, x)\n": "L23",
            "def f(x):\n    y = set()\n    return y\n": "L24", "def f(__x):\n    return 1\n": "L12",
            "class A:\n    def a(self):\n        self.a = 1\n": "L18", "def f(x):\n    raise x.wrong()\n": "L19",
        }
        own = {"methods": set(), "attributes": {"a"}}
        for text, rule in samples.items():
            found = language.Checker("sample", text, own).run()
            self.assertTrue(any(f": {rule}: " in fault for fault in found), (text, found))

    def test_the_interface_is_defined_where_it_is_listed(self):
        seen = {module: text for module, _, text in language.sources()}
        for module, told in interface.LISTED.items():
            text = seen[module]
            heads = {node.name: [one.arg for one in node.args.args] for node in ast.parse(text).body
                     if isinstance(node, ast.FunctionDef)}
            for head in told.split():
                name, parameters = head[:-1].split("(")
                self.assertEqual(heads.get(name), parameters.split(","), name)


if __name__ == "__main__":
    unittest.main()
