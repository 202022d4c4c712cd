"""The rules for the text of the program that can be checked simply."""

import ast
import builtins
import pathlib
import unittest

import roomways

FOLDER = pathlib.Path(roomways.__file__).parent
INTERFACE = (
    "bounds errors ways houses housetexts knownhouses standings steps standingtexts runs runtexts together holds doors "
    "times stuckness stalls nevers homes keepouts gates numbers programs programtexts histories supplies alls looks "
    "offices officelogs shells verdicts"
).split()
HELPERS = ["__init__", "kinds"]
BUILTINS = (
    "len range enumerate zip min max sum abs sorted reversed int str bool bytes list tuple dict set isinstance ord "
    "repr any all divmod ValueError TypeError KeyError IndexError LookupError"
).split()
METHODS = (
    "append clear copy count endswith extend find get index insert isalnum isalpha isdigit islower isspace isupper "
    "items join keys ljust lower lstrip partition pop remove replace reverse rfind rjust rpartition rsplit rstrip "
    "setdefault split splitlines startswith strip update upper values zfill bit_length"
).split()
KEPT = ("range", "zip", "enumerate", "reversed")
BARRED = (ast.AsyncFunctionDef, ast.AsyncFor, ast.AsyncWith, ast.Await, ast.Div)


def files():
    """Return the names and the texts of the package's files."""
    return [(path.stem, path.read_text(encoding="utf-8")) for path in sorted(FOLDER.glob("*.py"))]


def nodes(text, *kinds):
    return [node for node in ast.walk(ast.parse(text)) if isinstance(node, kinds)]


def bound_names(text):
    """The names of parameters, variables, functions and classes."""
    names = [node.id for node in nodes(text, ast.Name) if isinstance(node.ctx, ast.Store)]
    names += [node.arg for node in nodes(text, ast.arg)]
    return names + [node.name for node in nodes(text, ast.FunctionDef, ast.ClassDef)]


def top_names(text):
    """The names that a file binds by itself at its top."""
    told = []
    for node in ast.parse(text).body:
        if isinstance(node, (ast.FunctionDef, ast.ClassDef)):
            told.append(node.name)
        elif isinstance(node, ast.Assign):
            told.append(node.targets[0].id)
    return told


class Language(unittest.TestCase):
    def test_files(self):
        for path in FOLDER.iterdir():
            if path.name != "__pycache__":
                self.assertIn(path.name, [name + ".py" for name in INTERFACE + HELPERS])

    def test_sizes_and_signs(self):
        for name, text in files():
            rows = text.split("\n")
            self.assertLessEqual(len(rows), 399, name)
            self.assertLessEqual(max(map(len, rows)), 120, name)
            self.assertTrue(all(sign == "\n" or " " <= sign <= "~" for sign in text), name)
            for node in nodes(text, ast.FunctionDef):
                self.assertLessEqual(node.end_lineno - node.lineno + 1, 40, (name, node.name))

    def test_module_level(self):
        for name, text in files():
            tree = ast.parse(text)
            self.assertIsNotNone(ast.get_docstring(tree), name)
            imports_over = False
            for node in tree.body[1:]:
                self.assertIsInstance(node, (ast.ImportFrom, ast.Assign, ast.FunctionDef, ast.ClassDef), name)
                self.assertFalse(imports_over and isinstance(node, ast.ImportFrom), name)
                imports_over = not isinstance(node, ast.ImportFrom)
                if isinstance(node, ast.Assign):
                    self.assertEqual(1, len(node.targets), name)
                    self.assertFalse(nodes(ast.unparse(node.value), ast.Call, ast.ListComp, ast.GeneratorExp), name)
            self.assertEqual(len(top_names(text)), len(set(top_names(text))), name)

    def test_imports(self):
        texts = dict(files())
        seen = {name: [] for name in texts}
        for name, text in texts.items():
            self.assertFalse(nodes(text, ast.Import), name)
            for node in nodes(text, ast.ImportFrom):
                package, _, module = node.module.partition(".")
                self.assertEqual(("roomways", 0), (package, node.level), name)
                seen[name].append(module)
                for alias in node.names:
                    self.assertIsNone(alias.asname, name)
                    self.assertIn(alias.name, top_names(texts[module]), name)
                    self.assertNotIn(alias.name, bound_names(text), name)
        self.check_no_rounds(seen)

    def check_no_rounds(self, seen):
        left = dict(seen)
        while left:
            free = [name for name, modules in left.items() if not any(module in left for module in modules)]
            self.assertTrue(free, left)
            left = {name: modules for name, modules in left.items() if name not in free}

    def test_names(self):
        for name, text in files():
            for bound in bound_names(text):
                self.assertNotIn(bound, dir(builtins), name)
                self.assertTrue(not bound.startswith("__") or bound in ("__init__", "__eq__", "__ne__"), (name, bound))
            for node in nodes(text, ast.Name):
                if isinstance(node.ctx, ast.Load):
                    self.assertNotEqual("_", node.id, name)
                    self.assertTrue(node.id in BUILTINS or not hasattr(builtins, node.id), (name, node.id))

    def test_statements_and_signs(self):
        for name, text in files():
            self.assertFalse(nodes(text, *BARRED), name)
            for node in nodes(text, ast.FunctionDef, ast.ClassDef):
                self.assertFalse(node.decorator_list, name)
            for node in nodes(text, ast.Compare):
                for sign, right in zip(node.ops, node.comparators):
                    if isinstance(sign, (ast.Is, ast.IsNot)):
                        self.assertIn(ast.unparse(right), ("None", "True", "False"), name)
            for node in nodes(text, ast.Constant):
                self.assertNotIsInstance(node.value, (float, complex, bytes), name)
                self.assertFalse(isinstance(node.value, str) and "%" in node.value, name)

    def test_methods(self):
        own = []
        for name, text in files():
            for node in nodes(text, ast.ClassDef):
                own.extend(method.name for method in node.body if isinstance(method, ast.FunctionDef))
        for name, text in files():
            for node in nodes(text, ast.Call):
                if isinstance(node.func, ast.Attribute):
                    self.assertIn(node.func.attr, METHODS + own, name)

    def test_lists_for_what_compares(self):
        # Offices compare: so any, all and their kin take lists, and nothing is sorted in place.
        for name, text in files():
            for node in nodes(text, ast.Call):
                if isinstance(node.func, ast.Name) and node.func.id in ("any", "all", "min", "max", "sum", "sorted"):
                    self.assertFalse([one for one in node.args if isinstance(one, ast.GeneratorExp)],
                                     (name, node.lineno))
                self.assertNotEqual("sort", getattr(node.func, "attr", None), name)

    def test_sets(self):
        for name, text in files():
            sets = nodes(text, ast.Set, ast.SetComp)
            sets += [node for node in nodes(text, ast.Call) if ast.unparse(node.func) == "set"]
            measured = [node.args[0] for node in nodes(text, ast.Call) if ast.unparse(node.func) in ("len", "sorted")]
            self.assertEqual([], [ast.unparse(node) for node in sets
                                  if ast.dump(node) not in [ast.dump(one) for one in measured]], name)

    def test_handlers(self):
        own = [node.name for node in nodes(dict(files())["errors"], ast.ClassDef)]
        for name, text in files():
            for node in nodes(text, ast.ExceptHandler):
                self.assertIn(ast.unparse(node.type), own, name)
            for node in nodes(text, ast.Raise):
                self.assertIsInstance(node.exc, ast.Call, name)
                self.assertIn(ast.unparse(node.exc.func), own, name)

    def test_names_of_functions(self):
        for name, text in files():
            functions = [node.name for node in nodes(text, ast.FunctionDef)]
            classes = [node.name for node in nodes(text, ast.ClassDef)]
            bound = [node.id for node in nodes(text, ast.Name) if isinstance(node.ctx, ast.Store)]
            bound += [node.arg for node in nodes(text, ast.arg)]
            self.assertEqual([], [one for one in bound if one in functions + classes], name)

    def test_kept_ranges(self):
        for name, text in files():
            for function in nodes(text, ast.FunctionDef):
                kept = [node.targets[0].id for node in ast.walk(function) if isinstance(node, ast.Assign)
                        and isinstance(node.value, ast.Call) and ast.unparse(node.value.func) in KEPT]
                read = [inner.id for node in ast.walk(function) if isinstance(node, (ast.GeneratorExp, ast.Lambda))
                        for inner in ast.walk(node) if isinstance(inner, ast.Name)]
                self.assertFalse([one for one in kept if one in read], (name, function.name))


if __name__ == "__main__":
    unittest.main()
