"""What holds of every file of the package: nothing from outside, and no clock, chance or file."""

import ast
import pathlib
import unittest

FOLDER = pathlib.Path(__file__).resolve().parent.parent / "lastleft"
OUTSIDE = (
    "open", "input", "print", "eval", "exec", "compile", "globals", "locals", "vars", "hash", "id",
    "__import__", "__builtins__",
)


def nodes():
    """Each file of the package with each part of its code."""
    for path in sorted(FOLDER.rglob("*.py")):
        for node in ast.walk(ast.parse(path.read_text(encoding="utf-8"))):
            yield path.name, node


class PackageTest(unittest.TestCase):
    def test_imports_come_from_the_package_alone(self):
        for name, node in nodes():
            with self.subTest(name):
                self.assertNotIsInstance(node, ast.Import)
                if isinstance(node, ast.ImportFrom):
                    self.assertEqual(node.level, 0)
                    self.assertEqual(node.module.split(".")[0], "lastleft")

    def test_nothing_that_reaches_outside_is_named(self):
        for name, node in nodes():
            if isinstance(node, ast.Name):
                with self.subTest(name):
                    self.assertNotIn(node.id, OUTSIDE)


if __name__ == "__main__":
    unittest.main()
