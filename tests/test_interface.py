"""The interface: the names exist where they are listed, with the arguments that are listed."""
import ast
import importlib
import inspect
import os
import re
import unittest

TOP = os.path.dirname(os.path.dirname(os.path.abspath(__file__)))

ERRORS = {
    "HushError": None, "NothingToUndo": None, "InvalidName": ["name"], "TakenName": ["name"], "UnknownName": ["name"],
    "InvalidList": ["value"], "InvalidItem": ["value"], "InvalidBook": ["value"], "InvalidLot": ["value"],
    "InvalidRun": ["value"], "InvalidGoal": ["value"], "InvalidNumber": ["value"], "InvalidText": ["value"],
}
FUNCTIONS = {
    "runs": {
        "is_run": ["book", "lot", "value"],
        "next_events": ["book", "lot", "run"],
        "led": ["book", "lot", "run"],
    },
    "lots": {
        "least_lots": ["book", "goal"],
        "comes_to": ["book", "lot", "goal"],
        "bar": ["book", "goal"],
        "is_bar": ["book", "goal", "value"],
    },
    "numbers": {
        "beginning": ["book", "many"],
        "least_number": ["book", "goal"],
        "run_to": ["book", "goal"],
    },
    "rows": {
        "least_for_row": ["book", "row"],
        "run_of_row": ["book", "row"],
        "least_for_log": ["book", "log"],
        "run_of_log": ["book", "log"],
    },
    "lacks": {
        "alone": ["book", "house", "stand"],
        "lasting": ["book", "well"],
        "lack_run": ["book", "house", "stand"],
    },
    "tables": {
        "table": ["book"],
        "first_unlike": ["book", "other"],
        "beyond": ["book", "other"],
        "without": ["book", "entry"],
        "spare": ["book"],
    },
    "texts": {
        "text_of": ["book"],
        "read_book": ["text"],
    },
}
CLASSES = {
    "errors": {name: (arguments, {}) for name, arguments in ERRORS.items()},
    "books": {
        "Book": (
            ["houses", "stands", "deeds", "hearings", "lost"],
            {"houses": [], "stands": [], "deeds": [], "hearings": [], "lost": [], "sounds": [], "__eq__": ["other"]},
        ),
    },
    "live": {
        "Live": (
            ["book"],
            {"add": ["deed"], "hear": ["hearing"], "leave": ["entry"], "shown": [], "least_number": ["goal"],
             "lasting": ["well"], "back": [], "log": [], "copy": [], "__eq__": ["other"]},
        ),
    },
    "library": {
        "Library": (
            [],
            {"put": ["name", "book"], "drop": ["name"], "change": ["name", "book"], "book_of": ["name"], "names": [],
             "alike": ["book"], "bearing": ["row"], "back": [], "log": [], "copy": [], "__len__": [],
             "__contains__": ["name"], "__iter__": [], "__eq__": ["other"]},
        ),
    },
}


def arguments_of(call):
    return [name for name in inspect.signature(call).parameters if name != "self"]


def defined_in(module):
    """The functions and classes that are defined in a file of the package, with the classes' methods."""
    with open(os.path.join(TOP, "hushedasks", module + ".py"), encoding="utf-8") as file:
        body = ast.parse(file.read()).body
    return {
        node.name: [part.name for part in node.body if isinstance(part, ast.FunctionDef)]
        for node in body if isinstance(node, (ast.FunctionDef, ast.ClassDef))
    }


def rows_of_document():
    """The names of each module as the document's table lists them, if the document is there."""
    path = os.path.join(TOP, "..", "shared", "DOC.md")
    if not os.path.exists(path):
        return None
    with open(path, encoding="utf-8") as file:
        text = file.read().split("# The interface\n")[1]
    return dict(re.findall(r"^\| `hushedasks\.(\w+)` \| (.*) \|$", text, re.MULTILINE))


class TestInterface(unittest.TestCase):
    def test_the_document_lists_just_these(self):
        rows = rows_of_document()
        if rows is None:
            self.skipTest("the document is not here")
        self.assertEqual(set(rows), set(FUNCTIONS) | set(CLASSES))
        for module, functions in FUNCTIONS.items():
            told = {name + "(" + ", ".join(arguments) + ")" for name, arguments in functions.items()}
            self.assertEqual(set(re.findall(r"`([^`]*)`", rows[module])), told)
        self.assertEqual(set(re.findall(r"`([^`]*)`", rows["errors"])), set(ERRORS))
        signs = {"__eq__": "==", "__len__": "len(..)", "__contains__": "in", "__iter__": "for"}
        for module in ("books", "live", "library"):
            (name, (arguments, methods)), = CLASSES[module].items()
            told = {signs.get(method, method + "(" + ", ".join(taken) + ")") for method, taken in methods.items()}
            told.add(name + "(" + ", ".join(arguments) + ")")
            self.assertEqual(set(re.findall(r"`([^`]*)`", rows[module])), told)

    def test_functions(self):
        for module, functions in FUNCTIONS.items():
            made = importlib.import_module("hushedasks." + module)
            for name, arguments in functions.items():
                self.assertIn(name, defined_in(module))
                self.assertEqual(arguments_of(getattr(made, name)), arguments, name)

    def test_classes(self):
        for module, classes in CLASSES.items():
            made = importlib.import_module("hushedasks." + module)
            for name, (arguments, methods) in classes.items():
                self.assertIn(name, defined_in(module))
                if arguments is not None:
                    self.assertEqual(arguments_of(getattr(made, name)), arguments, name)
                for method, parameters in methods.items():
                    self.assertIn(method, defined_in(module)[name])
                    self.assertEqual(arguments_of(getattr(getattr(made, name), method)), parameters, method)


if __name__ == "__main__":
    unittest.main()
