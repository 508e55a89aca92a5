"""The form of the package: where the interface stands, and what of the language can be seen at a glance."""

import ast
import inspect
import pathlib
import unittest

from handrounds import desk, errors
from handrounds.change import changes
from handrounds.nets import closed, earliest, latest, meetings, nets
from handrounds.rounds import couriers, rounds

ROOT = pathlib.Path(__file__).resolve().parent.parent
PACKAGE = ROOT / "handrounds"
FILES = sorted(PACKAGE.rglob("*.py"))

# What each change defines in its own body.
CHANGE = {"told": "(self)", "apply": "(self, net, tick)", "__eq__": "(self, other)"}
# File by file: each class, and its listed methods with their parameters; each function with its parameters.
INTERFACE = {
    errors: {
        "RoundError": {}, "BadName": {"__init__": "(self, name)"}, "BadRound": {"__init__": "(self, part)"},
        "BadStop": {"__init__": "(self, index)"}, "BadNet": {"__init__": "(self, name)"},
        "UnknownNode": {"__init__": "(self, name)"}, "BadChange": {"__init__": "(self, index)"},
        "BadLetter": {"__init__": "(self, name)"}, "NotInTime": {}, "TooFew": {"__init__": "(self, count)"},
        "UnknownField": {"__init__": "(self, name)"},
    },
    rounds: {"Round": {
        "__init__": "(self, period, *stops)", "of": "(cls, period, stops)", "places": "(self)",
        "__eq__": "(self, other)", "__len__": "(self)", "__repr__": "(self)"}},
    couriers: {"Courier": {
        "__init__": "(self, name, way, start, since)", "place_at": "(self, tick)", "next_stop": "(self, tick)",
        "last_stop": "(self, tick)", "paused": "(self, tick, ticks)", "__eq__": "(self, other)",
        "__repr__": "(self)"}},
    nets: {"Net": {
        "__init__": "(self, couriers, boxes)", "hands": "(self)", "boxes": "(self)", "nodes": "(self)",
        "courier": "(self, name)", "has": "(self, node)", "__eq__": "(self, other)", "__len__": "(self)",
        "__repr__": "(self)"}},
    meetings: {
        "next_meeting": "(net, one, two, tick)", "last_meeting": "(net, one, two, tick)",
        "meetings": "(net, one, two, tick, end)", "ever_meet": "(net, one, two)"},
    earliest: {
        "Table": {
            "__init__": "(self, *entries)", "of": "(cls, entries)", "tick_of": "(self, node)",
            "holds": "(self, net, starts)", "__eq__": "(self, other)", "__len__": "(self)"},
        "earliest": "(net, starts)", "chain": "(net, starts, node)", "is_chain": "(net, starts, links, node)",
        "delivery": "(net, starts, place)"},
    latest: {
        "latest_start": "(net, node, place, deadline)", "needed_hands": "(net, starts, place, deadline)"},
    closed: {"closed_set": "(net, nodes)", "closed_sets": "(net)", "least_pause": "(net, nodes)"},
    changes: {
        "Change": CHANGE,
        "Pause": {"__init__": "(self, name, ticks)", **CHANGE},
        "Leave": {"__init__": "(self, name)", **CHANGE},
        "Join": {"__init__": "(self, newcomer)", **CHANGE},
        "Open": {"__init__": "(self, place)", **CHANGE},
        "Close": {"__init__": "(self, place)", **CHANGE},
        "Difference": {"is_nothing": "(self)"},
        "difference": "(net, change, tick, starts)"},
    desk: {"Desk": {
        "__init__": "(self, net)", "plain": "(cls, *couriers)", "tick": "(self)", "net": "(self)", "letters": "(self)",
        "post": "(self, letter, *nodes)", "wait": "(self, ticks)", "change": "(self, *changes)",
        "holders": "(self, letter)", "got": "(self, letter, node)", "forecast": "(self, letter)",
        "stays": "(self, letter)", "escape": "(self, letter)", "undo": "(self, *, count=1)",
        "describe": "(self, **wanted)", "__len__": "(self)"}},
}


def bare(method):
    """The plain function under a property or a class method."""
    return getattr(method, "fget", None) or getattr(method, "__func__", None) or method


class Interface(unittest.TestCase):
    def test_all_stands_in_its_file_with_its_parameters(self):
        for module, listed in INTERFACE.items():
            for name, told in listed.items():
                self.assertEqual(getattr(module, name).__module__, module.__name__)
                if isinstance(told, str):
                    self.assert_parameters(getattr(module, name), told)
                else:
                    self.assert_methods(getattr(module, name), told)

    def assert_methods(self, kind, methods):
        for method, parameters in methods.items():
            self.assert_parameters(bare(vars(kind)[method]), parameters)

    def assert_parameters(self, function, parameters):
        with self.subTest(function=function):
            self.assertEqual(str(inspect.signature(function)), parameters)


class Sources(unittest.TestCase):
    def test_folders_hold_plain_source_files_only(self):
        for path in PACKAGE.rglob("*"):
            if "__pycache__" in path.parts:
                continue
            with self.subTest(path=str(path)):
                if path.is_dir():
                    self.assertTrue((path / "__init__.py").is_file())
                else:
                    self.assertEqual(path.suffix, ".py")
                    self.assertEqual(path.name, path.name.lower())

    def test_signs_and_sizes(self):
        for path in FILES:
            with self.subTest(path=str(path)):
                text = path.read_bytes().decode("ascii")
                self.assertEqual([sign for sign in text if sign != "\n" and not " " <= sign <= "~"], [])
                self.assertLessEqual(len(text.splitlines()), 399)
                self.assertEqual([line for line in text.splitlines() if len(line) > 120], [])

    def test_functions_are_small(self):
        for path in FILES:
            for node in ast.walk(ast.parse(path.read_text())):
                if isinstance(node, ast.FunctionDef):
                    with self.subTest(path=str(path), function=node.name):
                        self.assertLessEqual(node.end_lineno - node.lineno + 1, 40)

    def test_imports_name_the_file_that_defines_the_name(self):
        for path in FILES:
            for node in ast.walk(ast.parse(path.read_text())):
                self.assertNotIsInstance(node, ast.Import)
                if isinstance(node, ast.ImportFrom):
                    with self.subTest(path=str(path), module=node.module):
                        self.assert_defined(node)

    def assert_defined(self, node):
        self.assertEqual((node.level, node.module.split(".")[0]), (0, "handrounds"))
        source = ROOT / (node.module.replace(".", "/") + ".py")
        defined = [row.name for row in ast.parse(source.read_text()).body if hasattr(row, "name")]
        for name in node.names:
            self.assertIsNone(name.asname)
            self.assertIn(name.name, defined)


if __name__ == "__main__":
    unittest.main()
