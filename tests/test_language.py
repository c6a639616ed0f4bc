"""Some rules of ../shared/LANGUAGE.md that can be read off the files of the package."""

import ast
import builtins
import os
import unittest
import warnings

FOLDER = os.path.join(os.path.dirname(os.path.dirname(os.path.abspath(__file__))), "samegaps")
LIBRARY = {"math": {"gcd", "isqrt"}, "itertools": {"combinations"}}


def files():
    """The names, texts and trees of all files of the package."""
    for name in sorted(os.listdir(FOLDER)):
        if name == "__pycache__":
            continue
        with open(os.path.join(FOLDER, name), encoding="utf-8") as file:
            text = file.read()
        yield name, text, ast.parse(text)


def functions(tree):
    """All functions of a tree."""
    return [node for node in ast.walk(tree) if isinstance(node, ast.FunctionDef)]


def assigned(function):
    """The names of parameters and local variables."""
    names = {argument.arg for argument in function.args.args}
    return names | {node.id for node in ast.walk(function)
                    if isinstance(node, ast.Name) and isinstance(node.ctx, ast.Store)}


class Language(unittest.TestCase):
    def test_files_and_sizes(self):
        for name, text, tree in files():
            self.assertRegex(name, r"^[a-z_]+\.py$")
            lines = text.split("\n")
            self.assertTrue(len(lines) < 400, name)
            for at, line in enumerate(lines, 1):
                self.assertTrue(len(line) <= 120 and all(" " <= sign <= "~" for sign in line), (name, at))
            for function in functions(tree):
                self.assertTrue(function.end_lineno - function.lineno < 40, (name, function.name))

    def test_no_warnings(self):
        with warnings.catch_warnings():
            warnings.simplefilter("error")
            for name, text, _ in files():
                compile(text, name, "exec")

    def test_imports(self):
        seen = {}
        for name, _, tree in files():
            seen[name[:-3]] = []
            for node in ast.walk(tree):
                self.assertNotIsInstance(node, ast.Import)
                if isinstance(node, ast.ImportFrom) and node.module in LIBRARY:
                    self.assertTrue({alias.name for alias in node.names} <= LIBRARY[node.module], name)
                elif isinstance(node, ast.ImportFrom):
                    self.assertTrue(node.module.startswith("samegaps."), name)
                    seen[name[:-3]].append(node.module[len("samegaps."):])
        # No file imports from one that imports from it: each can be taken behind those it needs.
        done = set()
        while len(done) < len(seen):
            ready = [name for name, needs in seen.items() if name not in done and set(needs) <= done]
            self.assertTrue(ready, sorted(set(seen) - done))
            done.update(ready)

    def test_names(self):
        for name, _, tree in files():
            imported = {alias.asname or alias.name for node in tree.body if isinstance(node, ast.ImportFrom)
                        for alias in node.names}
            for function in functions(tree):
                local = assigned(function)
                self.assertFalse(local & imported, (name, function.name))
                self.assertFalse((local | {function.name}) & set(dir(builtins)), (name, function.name))

    def test_signs(self):
        for name, _, tree in files():
            for node in ast.walk(tree):
                at = (name, getattr(node, "lineno", None))
                self.assertFalse(isinstance(node, ast.Constant) and isinstance(node.value, (float, complex)), at)
                self.assertFalse(isinstance(node, ast.Constant) and isinstance(node.value, str) and "%" in node.value, at)
                self.assertNotIsInstance(node, (ast.Div, ast.Global, ast.GeneratorExp, ast.SetComp, ast.Yield), at)
                if isinstance(node, ast.BinOp) and isinstance(node.op, ast.Pow):
                    self.assertTrue(isinstance(node.right, ast.Constant) and 0 <= node.right.value <= 64, at)
                if isinstance(node, ast.Compare) and any(isinstance(op, (ast.Is, ast.IsNot)) for op in node.ops):
                    self.assertIs(node.comparators[-1].value, None, at)


if __name__ == "__main__":
    unittest.main()
