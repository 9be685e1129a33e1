"""The interface as it is written, and what of ../shared/LANGUAGE.md can be measured."""

import ast
import builtins
import pathlib
import unittest

FOLDER = pathlib.Path(__file__).resolve().parent.parent / "treehands"
FUNCTIONS = {
    "trees": ("is_tree(book, tree)", "kids_of(book, tree)", "height(book, tree)", "parts(book, tree)",
              "ahead(book, one, other)", "places(book, tree)", "at(book, tree, place)",
              "put(book, tree, place, other)"),
    "sets": ("joined(one, other)", "met(one, other)", "less(one, other)", "about(reader)", "least(reader)",
             "first_to(reader)", "first(reader)", "same(one, other)", "shows(one, other, pairs)"),
    "patterns": ("is_pattern(book, pattern)", "fits(book, pattern, tree)", "fitting(book, pattern)",
                 "holding(book, pattern)"),
    "counts": ("many(reader, size)", "all_many(reader)", "tree_at(reader, number)", "number_of(reader, tree)",
               "cheapest(reader, weights)"),
    "paths": ("shut(reader)", "beside(reader)"),
    "turners": ("turned(turner, tree)", "size_turned(turner, tree)", "part_turned(turner, tree, place)",
                "behind(one, other)", "idle(book)", "again(turner, tree, times)", "parted(one, other, size)"),
    "lands": ("before(turner, reader)", "back(turner, tree)", "lands(turner, source, goal)",
              "shows_lands(turner, source, goal, rows)"),
    "notes": ("tree_text(book, tree)", "pattern_text(book, pattern)", "reader_text(reader)", "turner_text(turner)",
              "tree_read(book, text)", "pattern_read(book, text)", "reader_read(book, text)",
              "turner_read(book, goals, text)"),
}
CLASSES = {
    "signs": {"Book": ("__init__(self, signs)", "many(self)", "name(self, sign)", "kids(self, sign)",
                       "number(self, name)", "is_like(self, book)")},
    "readers": {"Reader": ("__init__(self, book, moods, tables, liked)", "book(self)", "moods(self)",
                           "table(self, sign)", "liked(self)", "mood(self, tree)", "likes(self, tree)")},
    "guesses": {"Guesser": ("__init__(self, book, moods, rules, liked)", "moods_of(self, tree)",
                            "likes(self, tree)", "reader(self)")},
    "turners": {"Turner": ("__init__(self, book, goals, rows)", "book(self)", "goals(self)", "states(self)",
                           "row(self, state, sign)")},
    "desk": {"Desk": ("__init__(self, book)", "say(self, line)")},
}
LIBRARY = ("heapq", "math", "itertools", "collections", "__future__")
BUILTINS = ("len range enumerate zip min max sum abs sorted reversed int str bool bytes list tuple dict set isinstance ord "
            "repr any all divmod Exception ValueError TypeError KeyError IndexError LookupError").split()


def source(path):
    return path.read_text(encoding="utf-8")


def files():
    return sorted(path for path in FOLDER.rglob("*") if "__pycache__" not in path.parts and path.is_file())


def defined(body):
    """The functions that stand straight in a body, as they are called."""
    return [f"{node.name}({', '.join(arg.arg for arg in node.args.args)})"
            for node in body if isinstance(node, ast.FunctionDef)]


class InterfaceTest(unittest.TestCase):
    def test_functions_stand_in_their_files(self):
        for name, wanted in FUNCTIONS.items():
            there = defined(ast.parse(source(FOLDER / f"{name}.py")).body)
            for function in wanted:
                self.assertIn(function, there)

    def test_methods_stand_in_their_classes(self):
        for name, classes in CLASSES.items():
            tree = ast.parse(source(FOLDER / f"{name}.py"))
            bodies = {node.name: node.body for node in tree.body if isinstance(node, ast.ClassDef)}
            for told, wanted in classes.items():
                for method in wanted:
                    self.assertIn(method, defined(bodies[told]))


class LanguageTest(unittest.TestCase):
    def test_folder_holds_nothing_but_python(self):
        for path in files():
            self.assertRegex(path.name, r"\A[a-z0-9_]+\.py\Z")

    def test_files_and_lines_are_short_and_plain(self):
        for path in files():
            lines = source(path).split("\n")
            self.assertLessEqual(len(lines) - 1, 399, path.name)
            for line in lines:
                self.assertLessEqual(len(line), 120, path.name)
                self.assertTrue(all(" " <= sign <= "~" for sign in line), path.name)

    def test_functions_are_short(self):
        for path in files():
            for node in ast.walk(ast.parse(source(path))):
                if isinstance(node, (ast.FunctionDef, ast.Lambda)):
                    self.assertLessEqual(node.end_lineno - node.lineno + 1, 40, path.name)

    def test_nothing_that_the_subset_leaves_out(self):
        for path in files():
            for node in ast.walk(ast.parse(source(path))):
                self.assertNotIsInstance(node, (ast.Div, ast.Await, ast.AsyncFunctionDef), path.name)
                if isinstance(node, ast.Constant):
                    self.assertNotIsInstance(node.value, (float, complex), path.name)
                    self.assertNotIn("%", str(node.value), path.name)

    def test_no_decorators_over_functions_and_classes(self):
        for path in files():
            for node in ast.parse(source(path)).body:
                if isinstance(node, (ast.FunctionDef, ast.ClassDef)):
                    self.assertEqual(node.decorator_list, [], path.name)

    def test_builtins_are_those_of_the_subset_and_no_other_names(self):
        for path in files():
            tree = ast.parse(source(path))
            names = [node for node in ast.walk(tree) if isinstance(node, ast.Name)]
            bound = [node.id for node in names if isinstance(node.ctx, ast.Store)]
            bound.extend(node.arg for node in ast.walk(tree) if isinstance(node, ast.arg))
            bound.extend(node.name for node in ast.walk(tree) if isinstance(node, (ast.FunctionDef, ast.ClassDef)))
            imported = [alias.name for node in tree.body if isinstance(node, ast.ImportFrom) for alias in node.names]
            used = [node.id for node in names if isinstance(node.ctx, ast.Load)]
            for name in used:
                if hasattr(builtins, name):
                    self.assertIn(name, BUILTINS, path.name)
            for name in bound:
                self.assertNotIn(name, BUILTINS, path.name)
                self.assertNotIn(name, imported, path.name)
            for name in imported:
                self.assertIn(name, used, path.name)

    def test_no_two_files_import_from_each_other(self):
        told = {path.stem: [node.module.split(".")[1] for node in ast.parse(source(path)).body
                            if isinstance(node, ast.ImportFrom) and node.module.startswith("treehands.")]
                for path in files()}
        done = []
        while len(done) < len(told):
            ready = [name for name in told if name not in done and all(other in done for other in told[name])]
            self.assertNotEqual(ready, [], [name for name in told if name not in done])
            done.extend(ready)

    def test_imports_are_full_and_of_the_package(self):
        for path in files():
            tree = ast.parse(source(path))
            self.assertFalse([node for node in ast.walk(tree) if isinstance(node, ast.Import)])
            for node in ast.walk(tree):
                if isinstance(node, ast.ImportFrom):
                    self.assertIn(node, tree.body)
                    self.assertEqual(node.level, 0)
                    self.assertTrue(node.module.startswith("treehands.") or node.module in LIBRARY)


if __name__ == "__main__":
    unittest.main()
