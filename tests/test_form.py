"""The interface as it is written, and what can be seen at once of the form of the package's files."""

import ast
import builtins
import pathlib
import re
import tokenize
import unittest

PACKAGE = pathlib.Path(__file__).resolve().parent.parent / "iceopened"

FUNCTIONS = {
    "words": {
        "is_whole": ["thing"],
        "is_within": ["thing", "low", "high"],
        "is_name": ["thing"],
        "number_of": ["word"],
    },
    "worldtext": {"show_world": ["world"], "read_world": ["text"]},
    "tables": {"is_table": ["world", "thing"], "table_told": ["world", "table"]},
    "walking": {"good_walk": ["world", "table"]},
    "tabletext": {"show_table": ["world", "table"], "read_table": ["world", "text"]},
    "soonest": {
        "hours_from": ["world", "waters", "vessel", "port", "hour"],
        "legs_from": ["world", "waters", "vessel", "port", "hour"],
        "way_to": ["world", "waters", "vessel", "port", "hour", "goal"],
        "shows_hours": ["world", "waters", "vessel", "port", "hour", "thing"],
    },
    "lastly": {
        "last_hours": ["world", "waters", "vessel", "goal", "by"],
        "last_way": ["world", "waters", "vessel", "port", "goal", "by"],
        "too_late": ["world", "waters", "vessel", "port", "goal", "by"],
        "shows_last": ["world", "waters", "vessel", "goal", "by", "thing"],
    },
    "led": {
        "breakers_walk": ["world", "table"],
        "led": ["world", "table"],
        "led_table": ["world", "table"],
        "price_of": ["world", "table"],
        "moved_ships": ["world", "before", "behind"],
        "standing": ["world", "table"],
        "shows_led": ["world", "table", "thing"],
        "open_hours": ["world"],
        "open_price": ["world"],
        "barred": ["world", "name"],
    },
    "freeing": {
        "stuck": ["world", "table"], "freed": ["world", "table", "name"], "led_out": ["world", "table", "name"],
    },
    "best": {"least_table": ["world", "last"], "shows_least": ["world", "last", "thing"]},
    "otherwise": {
        "renamed": ["world", "ports", "channels", "vessels"],
        "renamed_table": ["world", "table", "channels", "vessels"],
        "later_world": ["world", "many"],
        "later_table": ["world", "table", "many"],
        "turned": ["world"],
        "with_ship": ["world", "ship"],
        "without": ["world", "name"],
    },
    "desklines": {"read_line": ["line"]},
}

# Of each class its base classes, and of its methods the arguments behind self.
CLASSES = {
    "errors": {
        "IceError": (["ValueError"], {}),
        "NoName": (["IceError"], {"__init__": ["found"]}),
        "NoNumber": (["IceError"], {"__init__": ["found"]}),
        "Doubled": (["IceError"], {"__init__": ["name"]}),
        "NoPort": (["IceError"], {"__init__": ["found"]}),
        "NoChannel": (["IceError"], {"__init__": ["found"]}),
        "NoVessel": (["IceError"], {"__init__": ["found"]}),
        "NoKind": (["IceError"], {"__init__": ["found"]}),
        "NoHour": (["IceError"], {"__init__": ["found"]}),
        "NoWorld": (["IceError"], {"__init__": ["found"]}),
        "NoTable": (["IceError"], {"__init__": ["found"]}),
        "Faulty": (["IceError"], {"__init__": ["name", "number", "word"]}),
        "TooMany": (["IceError"], {"__init__": ["many"]}),
        "NoText": (["IceError"], {"__init__": ["at"]}),
        "NoNames": (["IceError"], {"__init__": ["found"]}),
        "NoEntry": (["IceError"], {"__init__": ["found"]}),
        "NoWay": (["IceError"], {"__init__": ["found"]}),
        "NoLine": (["IceError"], {"__init__": ["found"]}),
    },
    "vessels": {
        "Channel": ([], {
            "__init__": ["name", "one", "other", "hours", "depth", "first", "growth", "most"],
            "ends": [], "beyond": ["port"], "row": [],
        }),
        "Vessel": ([], {
            "__init__": ["name", "port", "hour", "strength", "draught"],
            "kind": [], "thins": [], "lets": ["channel"], "row": [],
        }),
        "Breaker": (["Vessel"], {"__init__": ["name", "port", "hour", "strength", "draught", "cut"]}),
        "Ship": (["Vessel"], {"__init__": ["name", "port", "goal", "hour", "strength", "draught"]}),
        "Train": (["Vessel"], {"__init__": ["vessels"], "names": []}),
    },
    "world": {
        "World": ([], {
            "__init__": ["begin", "ports", "channels", "breakers", "ships"],
            "begin_hour": [], "ports": [], "channels": [], "breakers": [], "ships": [], "vessels": [],
            "channel": ["name"], "vessel": ["name"], "is_port": ["thing"], "channels_at": ["port"],
            "from_hour": ["vessel"], "told": [],
        }),
    },
    "ice": {
        "Ice": ([], {
            "__init__": ["channel", "begin"], "break_at": ["hour", "cut"], "mend_at": ["hour", "cut"],
            "thick": ["hour"], "ahead": ["hour"], "breakings": [], "rows": [],
            "next_hour": ["hour", "strength"], "last_hour": ["hour", "strength"], "stretches": ["strength"],
            "copied": [],
        }),
        "Waters": ([], {"__init__": ["world"], "ice": ["name"], "thick": ["name", "hour"], "copied": []}),
    },
    "walking": {
        "Walk": ([], {
            "__init__": ["world", "table"], "faults": [], "done": [], "table": [], "waters": [],
            "where": ["name", "hour"], "at_end": ["name"], "comes": ["name"],
        }),
    },
    "season": {
        "Season": ([], {
            "__init__": ["world"], "go": ["name", "hour", "channel"], "back": ["name"],
            "late": ["name", "number", "many"], "undo": [], "redo": [], "world": [], "table": [], "whole": [],
            "led": [], "price": [], "standing": [], "stuck": [], "thick": ["channel", "hour"],
            "where": ["name", "hour"], "last": ["name", "by"], "copied": [],
        }),
    },
    "desk": {"Desk": ([], {"__init__": [], "say": ["line"]})},
}

BUILTINS = """
    len range enumerate zip min max sum abs sorted reversed int str bool bytes list tuple dict set isinstance ord repr
    any all divmod ValueError
""".split()
METHODS = """
    append clear copy count endswith extend find get index insert isalnum isalpha isdigit islower isspace isupper items
    join keys ljust lower lstrip partition pop remove replace reverse rfind rjust rpartition rsplit rstrip setdefault
    split splitlines startswith strip update upper values zfill bit_length
""".split()
# Of these the first stand nowhere, the others are no names, but may be words of a text.
BARRED = """
    type typing typing_extensions enum Enum IntEnum StrEnum Flag IntFlag Generic Protocol ABC ABCMeta namedtuple
    NamedTuple TypedDict TYPE_CHECKING abstractmethod _wall _WallAttr dataclass overload contextmanager
""".split()
BARRED_NAMES = """
    register mro elements open input law version_info with_traceback add_note attrgetter breakpoint builtins compile
    copyright credits delattr dir eval exec exit gc getattr globals hasattr help id importlib license locals
    methodcaller os quit setattr super vars sys
""".split()


def parsed(path):
    return ast.parse(path.read_text(encoding="ascii"))


def arguments(function):
    return [argument.arg for argument in function.args.args]


class Interface(unittest.TestCase):
    def test_functions(self):
        for name, functions in FUNCTIONS.items():
            body = parsed(PACKAGE / (name + ".py")).body
            there = {part.name: arguments(part) for part in body if isinstance(part, ast.FunctionDef)}
            for function, wanted in functions.items():
                self.assertEqual(there.get(function), wanted, function)

    def test_classes(self):
        for name, classes in CLASSES.items():
            body = parsed(PACKAGE / (name + ".py")).body
            there = {part.name: part for part in body if isinstance(part, ast.ClassDef)}
            for kind, (bases, methods) in classes.items():
                self.assertEqual([base.id for base in there[kind].bases], bases, kind)
                own = {part.name: arguments(part) for part in there[kind].body if isinstance(part, ast.FunctionDef)}
                for method, wanted in methods.items():
                    self.assertEqual(own.get(method), ["self"] + wanted, (kind, method))


class Form(unittest.TestCase):
    def files(self):
        return sorted(path for path in PACKAGE.iterdir() if path.name != "__pycache__")

    def test_the_folder_holds_nothing_else(self):
        self.assertIn("__init__.py", [path.name for path in self.files()])
        for path in self.files():
            self.assertTrue(path.is_file() and path.suffix == ".py", path.name)

    def test_signs_and_sizes(self):
        for path in self.files():
            text = path.read_text(encoding="utf-8")
            self.assertTrue(all(sign == "\n" or " " <= sign <= "~" for sign in text), path.name)
            lines = text.splitlines()
            self.assertLess(len(lines), 400, path.name)
            self.assertLessEqual(max(map(len, lines)), 120, path.name)

    def test_functions_are_small(self):
        for path in self.files():
            for part in ast.walk(parsed(path)):
                if isinstance(part, ast.FunctionDef):
                    self.assertLessEqual(part.end_lineno - part.lineno + 1, 40, (path.name, part.name))

    def test_imports_name_a_file_of_the_package(self):
        for path in self.files():
            for part in ast.walk(parsed(path)):
                self.assertNotIsInstance(part, ast.Import, path.name)
                if isinstance(part, ast.ImportFrom):
                    self.assertEqual(part.level, 0, path.name)
                    self.assertTrue(part.module.startswith("iceopened."), (path.name, part.module))

    def test_builtins_are_those_of_the_subset(self):
        for path in self.files():
            used = {part.id for part in ast.walk(parsed(path)) if isinstance(part, ast.Name)}
            self.assertEqual(sorted(name for name in used if hasattr(builtins, name) and name not in BUILTINS), [])

    def test_no_name_means_two_things(self):
        for path in self.files():
            tree = parsed(path)
            taken = set(dir(builtins))
            for part in tree.body:
                if isinstance(part, ast.ImportFrom):
                    taken.update(alias.name for alias in part.names)
                if isinstance(part, ast.ClassDef):
                    taken.add(part.name)
            names = [part for part in ast.walk(tree) if isinstance(part, ast.Name)]
            bound = {part.id for part in names if isinstance(part.ctx, ast.Store)}
            bound.update(part.arg for part in ast.walk(tree) if isinstance(part, ast.arg))
            bound.update(part.name for part in tree.body if isinstance(part, ast.FunctionDef))
            self.assertEqual(sorted(bound & taken), [], path.name)

    def test_methods_are_no_attributes(self):
        methods, attributes, called = set(), set(), set()
        for path in self.files():
            for part in ast.walk(parsed(path)):
                if isinstance(part, ast.ClassDef):
                    methods.update(each.name for each in part.body if isinstance(each, ast.FunctionDef))
                if isinstance(part, ast.Attribute) and isinstance(part.ctx, ast.Store):
                    attributes.add(part.attr)
                if isinstance(part, ast.Call) and isinstance(part.func, ast.Attribute):
                    called.add(part.func.attr)
        self.assertEqual(sorted(methods & attributes), [])
        self.assertEqual(sorted(called - methods - set(METHODS)), [])

    def test_no_statement_or_word_that_is_barred(self):
        barred = (ast.AsyncFunctionDef, ast.AsyncFor, ast.AsyncWith, ast.Await, ast.Div)
        for path in self.files():
            for part in ast.walk(parsed(path)):
                self.assertNotIsInstance(part, barred, path.name)
            with tokenize.open(path) as file:
                tokens = [token for token in tokenize.generate_tokens(file.readline)
                          if token.type in (tokenize.NAME, tokenize.STRING) and not token.string.startswith('"""')]
            names = [token.string for token in tokens if token.type == tokenize.NAME]
            texts = " ".join(token.string for token in tokens if token.type == tokenize.STRING)
            found = names + re.findall("[A-Za-z_]+", texts)
            self.assertEqual(sorted(set(found) & set(BARRED)), [], path.name)
            self.assertEqual(sorted(set(names) & set(BARRED_NAMES)), [], path.name)
            self.assertNotIn("%", texts, path.name)


if __name__ == "__main__":
    unittest.main()
