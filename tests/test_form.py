"""The interface as it is written, and what can be seen at once of the form of the package's files."""

import ast
import pathlib
import unittest

PACKAGE = pathlib.Path(__file__).resolve().parent.parent / "iceopened"

FUNCTIONS = {
    "words": {
        "is_whole": ["thing"],
        "is_within": ["thing", "low", "high"],
        "is_name": ["thing"],
        "number_of": ["word"],
    },
}

# Of each class its base classes, and of its methods the arguments behind self.
CLASSES = {
    "errors": {
        "IceError": (["ValueError"], {}),
        "NoName": (["IceError"], {"__init__": ["found"]}),
        "NoNumber": (["IceError"], {"__init__": ["found"]}),
        "Doubled": (["IceError"], {"__init__": ["name"]}),
        "NoPort": (["IceError"], {"__init__": ["found"]}),
        "NoChannel": (["IceError"], {"__init__": ["found"]}),
        "NoVessel": (["IceError"], {"__init__": ["found"]}),
        "NoKind": (["IceError"], {"__init__": ["found"]}),
        "NoHour": (["IceError"], {"__init__": ["found"]}),
        "NoWorld": (["IceError"], {"__init__": ["found"]}),
        "NoTable": (["IceError"], {"__init__": ["found"]}),
        "Faulty": (["IceError"], {"__init__": ["name", "number", "word"]}),
        "TooMany": (["IceError"], {"__init__": ["many"]}),
        "NoText": (["IceError"], {"__init__": ["at"]}),
        "NoNames": (["IceError"], {"__init__": ["found"]}),
        "NoEntry": (["IceError"], {"__init__": ["found"]}),
        "NoWay": (["IceError"], {"__init__": ["found"]}),
        "NoLine": (["IceError"], {"__init__": ["found"]}),
    },
    "vessels": {
        "Channel": ([], {
            "__init__": ["name", "one", "other", "hours", "depth", "first", "growth", "most"],
            "ends": [], "beyond": ["port"], "row": [],
        }),
        "Vessel": ([], {
            "__init__": ["name", "port", "hour", "strength", "draught"],
            "kind": [], "thins": [], "lets": ["channel"], "row": [],
        }),
        "Breaker": (["Vessel"], {"__init__": ["name", "port", "hour", "strength", "draught", "cut"]}),
        "Ship": (["Vessel"], {"__init__": ["name", "port", "goal", "hour", "strength", "draught"]}),
        "Train": (["Vessel"], {"__init__": ["vessels"], "names": []}),
    },
}


def parsed(path):
    return ast.parse(path.read_text(encoding="ascii"))


def arguments(function):
    return [argument.arg for argument in function.args.args]


class Interface(unittest.TestCase):
    def test_functions(self):
        for name, functions in FUNCTIONS.items():
            body = parsed(PACKAGE / (name + ".py")).body
            there = {part.name: arguments(part) for part in body if isinstance(part, ast.FunctionDef)}
            for function, wanted in functions.items():
                self.assertEqual(there.get(function), wanted, function)

    def test_classes(self):
        for name, classes in CLASSES.items():
            body = parsed(PACKAGE / (name + ".py")).body
            there = {part.name: part for part in body if isinstance(part, ast.ClassDef)}
            for kind, (bases, methods) in classes.items():
                self.assertEqual([base.id for base in there[kind].bases], bases, kind)
                own = {part.name: arguments(part) for part in there[kind].body if isinstance(part, ast.FunctionDef)}
                for method, wanted in methods.items():
                    self.assertEqual(own.get(method), ["self"] + wanted, (kind, method))


class Form(unittest.TestCase):
    def files(self):
        return sorted(path for path in PACKAGE.iterdir() if path.name != "__pycache__")

    def test_the_folder_holds_nothing_else(self):
        self.assertIn("__init__.py", [path.name for path in self.files()])
        for path in self.files():
            self.assertTrue(path.is_file() and path.suffix == ".py", path.name)

    def test_signs_and_sizes(self):
        for path in self.files():
            text = path.read_text(encoding="utf-8")
            self.assertTrue(all(sign == "\n" or " " <= sign <= "~" for sign in text), path.name)
            lines = text.splitlines()
            self.assertLess(len(lines), 400, path.name)
            self.assertLessEqual(max(map(len, lines)), 120, path.name)

    def test_functions_are_small(self):
        for path in self.files():
            for part in ast.walk(parsed(path)):
                if isinstance(part, ast.FunctionDef):
                    self.assertLessEqual(part.end_lineno - part.lineno + 1, 40, (path.name, part.name))

    def test_imports_name_a_file_of_the_package(self):
        for path in self.files():
            for part in ast.walk(parsed(path)):
                self.assertNotIsInstance(part, ast.Import, path.name)
                if isinstance(part, ast.ImportFrom):
                    self.assertEqual(part.level, 0, path.name)
                    self.assertTrue(part.module.startswith("iceopened."), (path.name, part.module))


if __name__ == "__main__":
    unittest.main()
