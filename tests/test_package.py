"""No clock, chance or files: nothing in the package could reach one."""

import ast
import builtins
import pathlib
import unittest

import foldrule

FOLDER = pathlib.Path(foldrule.__file__).parent

# Python's own names that LANGUAGE.md (L8) lists, less those that it takes out again.
OWN_NAMES = set(
    "len range enumerate zip min max sum abs sorted reversed int str bool list tuple dict set frozenset isinstance "
    "ord repr any all divmod Exception ValueError TypeError KeyError IndexError LookupError ZeroDivisionError "
    "ArithmeticError OverflowError RuntimeError NotImplementedError AttributeError StopIteration "
    "True False None".split()
)


def package_files():
    return sorted(FOLDER.rglob("*.py"))


def nodes(path):
    return list(ast.walk(ast.parse(path.read_text(encoding="utf-8"))))


class PackageTest(unittest.TestCase):
    def test_the_files_of_the_interface_are_there(self):
        names = [path.name for path in package_files()]
        for name in ["__init__.py", "cases.py", "counting.py", "errors.py", "notes.py", "rules.py"]:
            self.assertIn(name, names)

    def test_only_the_package_itself_is_imported(self):
        for path in package_files():
            for node in nodes(path):
                with self.subTest(path=path.name, line=getattr(node, "lineno", 0)):
                    self.assertNotIsInstance(node, ast.Import)
                    if isinstance(node, ast.ImportFrom):
                        self.assertEqual(node.level, 0)
                        self.assertTrue(node.module.startswith("foldrule."))

    def test_only_listed_names_of_pythons_own_are_used(self):
        for path in package_files():
            used = {node.id for node in nodes(path) if isinstance(node, ast.Name)}
            with self.subTest(path=path.name):
                self.assertEqual(used & set(dir(builtins)) - OWN_NAMES, set())
                self.assertEqual([name for name in used if name.startswith("_")], [])

    def test_no_attribute_with_underscores_ahead_is_used(self):
        for path in package_files():
            used = {node.attr for node in nodes(path) if isinstance(node, ast.Attribute)}
            with self.subTest(path=path.name):
                self.assertEqual([name for name in used if name.startswith("_")], [])


if __name__ == "__main__":
    unittest.main()
