"""The form of the package's files: what LANGUAGE.md says of files, sizes, characters and imports."""

import ast
import unittest
from pathlib import Path

PACKAGE = Path(__file__).resolve().parent.parent / "steadycover"
LIBRARY = {
    "__future__": {"annotations"},
    "heapq": {"heappush", "heappop", "heapify", "heapreplace", "heappushpop"},
    "math": {"gcd", "lcm", "isqrt", "comb", "perm", "factorial"},
    "itertools": {"product", "combinations", "permutations"},
}


def files():
    return sorted(PACKAGE.rglob("*.py"))


def parsed(path):
    return ast.parse(path.read_text(encoding="utf-8"))


def defined(module):
    """The names that a module of the package defines itself."""
    names = set()
    for node in parsed(PACKAGE.parent / (module.replace(".", "/") + ".py")).body:
        if isinstance(node, (ast.FunctionDef, ast.ClassDef)):
            names.add(node.name)
        if isinstance(node, ast.Assign):
            names.update(target.id for target in node.targets if isinstance(target, ast.Name))
    return names


class PackageTest(unittest.TestCase):
    def test_only_python_files(self):
        others = [
            path for path in PACKAGE.rglob("*")
            if path.is_file() and path.suffix != ".py" and path.parent.name != "__pycache__"
        ]
        self.assertEqual(others, [])
        self.assertIn(PACKAGE / "__init__.py", files())

    def test_characters_and_lines(self):
        for path in files():
            text = path.read_bytes().decode("ascii")
            self.assertTrue(all(sign == "\n" or " " <= sign <= "~" for sign in text), path)
            self.assertLessEqual(len(text.splitlines()), 399, path)
            self.assertLessEqual(max(len(line) for line in text.splitlines()), 120, path)

    def test_functions_have_at_most_forty_lines(self):
        for path in files():
            for node in ast.walk(parsed(path)):
                if isinstance(node, ast.FunctionDef):
                    self.assertLessEqual(node.end_lineno - node.lineno + 1, 40, (path, node.name))

    def test_imports_name_the_file_that_defines_the_name(self):
        for path in files():
            for node in ast.walk(parsed(path)):
                self.assertNotIsInstance(node, ast.Import, path)
                if isinstance(node, ast.ImportFrom):
                    self.assertEqual(node.level, 0, path)
                    known = LIBRARY.get(node.module) or defined(node.module)
                    self.assertLessEqual({name.name for name in node.names}, known, path)


if __name__ == "__main__":
    unittest.main()
