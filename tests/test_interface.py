"""The interface: names, arguments, and in which file each thing stands."""

import ast
import inspect
import unittest
from importlib import import_module
from pathlib import Path

PACKAGE = Path(__file__).resolve().parent.parent / "evenhands"

# In the order of the stages: a file uses only those ahead of it.
FILES = ("errors", "groups", "calls", "rising", "matchings", "plans", "judge", "rounds", "reach",
         "writing", "keeper", "texts", "desk")
FUNCTIONS = {
    "groups": {"is_name": "(thing)"},
    "calls": {
        "gain": "(group, one, other)", "called": "(group, one, other)",
        "may": "(group, one, other)", "behind": "(group, calls)", "signs_against": "(group)",
    },
    "rising": {
        "weights_of": "(group, calls)", "rising": "(group, calls)", "heights": "(group, calls)",
        "are_one": "(group, calls, others)",
    },
    "matchings": {
        "least_ones": "(group)", "matchings": "(group)", "parts": "(group, some)",
        "barrier": "(group)",
    },
    "plans": {
        "plan": "(group, *, by='calls')", "how_many": "(group)", "rounds_of": "(group, levels)",
    },
    "judge": {"is_plan": "(group, thing)", "lets_by": "(group, thing)"},
    "rounds": {"told_rounds": "(many)", "fewest_calls": "(many)", "round_group": "(many)"},
    "reach": {"most": "(group, person)", "together": "(group, pages)"},
    "writing": {
        "written": "(group, person, page, *, leaves=1)", "fresh": "(group)",
        "mended": "(group, *, most=2)", "cure": "(group)", "by_pairs": "(group)",
        "by_two": "(group)",
    },
    "keeper": {"sound": "(group)", "kept": "(group, log, *, watch=True)"},
    "texts": {"group_text": "(group)", "read_group": "(text)"},
}
CLASSES = {
    "errors": {
        "HandError": {}, "BadGroup": {"__init__": "(self, at)"}, "NoName": {},
        "NoPerson": {"__init__": "(self, name)"}, "NoPage": {"__init__": "(self, name)"},
        "Twice": {"__init__": "(self, name)"}, "Barred": {}, "Idle": {},
        "Uneven": {"__init__": "(self, gives, gets)"}, "NoCall": {"__init__": "(self, at)"},
        "NoNumber": {}, "NoWay": {}, "TooMany": {}, "Spoils": {"__init__": "(self, stuck)"},
        "NoDeed": {"__init__": "(self, at)"}, "NoBack": {}, "NoText": {"__init__": "(self, row)"},
    },
    "groups": {
        "Group": {
            "__init__": "(self, held, *, leaves=(), barred=())", "people": "(self)",
            "pages": "(self)", "held": "(self, person)", "weight": "(self, person)",
            "leaves": "(self, page)", "barred": "(self)", "state": "(self)", "holders": "(self)",
            "shared": "(self)", "__len__": "(self)", "__eq__": "(self, other)",
        },
    },
    "keeper": {
        "Keeper": {
            "__init__": "(self, group, *, watch=True)", "do": "(self, deed)",
            "all_done": "(self, deeds)", "back": "(self)", "group": "(self)", "log": "(self)",
            "twin": "(self)", "tries": "(self)",
        },
    },
    "desk": {"Desk": {"__init__": "(self)", "say": "(self, row)"}},
}


def tree_of(name):
    return ast.parse((PACKAGE / (name + ".py")).read_text())


def stands_in(name, kind):
    return {node.name: node for node in tree_of(name).body if isinstance(node, kind)}


class TestInterface(unittest.TestCase):
    def test_functions_stand_in_their_files(self):
        for name, functions in FUNCTIONS.items():
            found = stands_in(name, ast.FunctionDef)
            for function, arguments in functions.items():
                self.assertIn(function, found)
                thing = getattr(import_module("evenhands." + name), function)
                self.assertEqual(str(inspect.signature(thing)), arguments, function)

    def test_classes_and_methods_stand_in_their_files(self):
        for name, classes in CLASSES.items():
            found = stands_in(name, ast.ClassDef)
            for word, methods in classes.items():
                self.assertIn(word, found)
                thing = getattr(import_module("evenhands." + name), word)
                for method, arguments in methods.items():
                    self.assertIn(method, vars(thing), word)
                    signature = str(inspect.signature(vars(thing)[method]))
                    self.assertEqual(signature, arguments, (word, method))

    def test_the_package_itself_binds_nothing(self):
        self.assertEqual(ast.parse((PACKAGE / "__init__.py").read_text()).body, [])

    def test_a_file_uses_those_ahead_alone(self):
        for at, name in enumerate(FILES):
            ahead = ["evenhands." + other for other in FILES[:at]]
            for node in ast.walk(tree_of(name)):
                self.assertNotIsInstance(node, ast.Import)
                if isinstance(node, ast.ImportFrom):
                    self.assertIn(node.module, ahead, name)


class TestFiles(unittest.TestCase):
    """L1, L10, L14: what the folder holds, sizes and characters."""

    def test_the_folder_holds_just_these_files(self):
        found = sorted(path.name for path in PACKAGE.iterdir() if path.name != "__pycache__")
        self.assertEqual(found, sorted(["__init__.py", *[name + ".py" for name in FILES]]))

    def test_sizes_and_characters(self):
        for name in FILES:
            text = (PACKAGE / (name + ".py")).read_text()
            rows = text.split("\n")
            self.assertLessEqual(len(rows), 399, name)
            self.assertLessEqual(max(map(len, rows)), 120, name)
            self.assertTrue(all(" " <= sign <= "~" or sign == "\n" for sign in text), name)
            for node in ast.walk(ast.parse(text)):
                if isinstance(node, ast.FunctionDef):
                    self.assertLessEqual(node.end_lineno - node.lineno, 39, node.name)


if __name__ == "__main__":
    unittest.main()
