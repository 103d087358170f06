"""Points [1] and [2]: names, arguments and kinds of values, and where all of it is defined."""

import ast
import inspect
import subprocess
import sys
import unittest
from pathlib import Path

from tests import samples
from wipedtalk import errors, families, live, programs, replays, runs, searching, verdicts
from wipedtalk.live import Live
from wipedtalk.programs import Pair, Receiver, Sender

ROOT = Path(__file__).resolve().parent.parent
PACKAGE = ROOT / "wipedtalk"

SENDER_LINE = "(value_count, forward, backward, *, sends, ticks, hears, takes, crashes)"
RECEIVER_LINE = "(value_count, forward, backward, *, sends, ticks, hears, gives, crashes)"
LINES = {
    programs: {
        "Sender": SENDER_LINE, "Receiver": RECEIVER_LINE, "Pair": "(sender, receiver)",
        "keeps_nothing": "(pair, program)",
    },
    runs: {"walked": "(pair, run)", "delivered": "(pair, run)", "possible": "(pair, run)"},
    verdicts: {"rest": "(pair, run)", "verdict": "(pair, run, *, excusing=('sender', 'receiver'))"},
    replays: {
        "breaking": "(pair, settled)", "recorded": "(pair, channel, rounds)", "one_crash": "(pair)",
    },
    families: {"enduring": "(room)", "turn": "(values)", "greeting": "(values)"},
    searching: {"least_broken": "(pair, most, *, excusing=('sender', 'receiver'))"},
    live: {"Live": "(pair)"},
    errors: {
        "InvalidNumber": "(thing)", "InvalidTable": "(name, row)", "InvalidProgram": "(thing)",
        "InvalidPair": "(thing)", "InvalidEvent": "(place)", "InvalidExcusing": "(thing)",
        "KeepsSomething": "(program)", "NotPossible": "(place)",
    },
}
PROPERTIES = {
    Sender: ("value_count", "forward", "backward", "sends", "ticks", "hears", "takes", "crashes"),
    Receiver: ("value_count", "forward", "backward", "sends", "ticks", "hears", "gives", "crashes"),
    Pair: ("sender", "receiver"),
    Live: ("pair", "run", "state", "delivered"),
}
METHODS = {
    Sender: {"__eq__": "(self, other)"},
    Receiver: {"__eq__": "(self, other)"},
    Pair: {"__eq__": "(self, other)"},
    Live: {"__len__": "(self)", "verdict": "(self)", "do": "(self, event)", "back": "(self)"},
}
MODULES = ("errors", "programs", "runs", "verdicts", "replays", "families", "searching", "live")


def top_level(module):
    """The functions and classes that are defined at the top of a module's file."""
    tree = ast.parse(Path(module.__file__).read_text())
    return [node.name for node in tree.body if isinstance(node, (ast.FunctionDef, ast.ClassDef))]


class Interface(unittest.TestCase):
    def test_lines(self):
        for module, lines in LINES.items():
            for name, line in lines.items():
                self.assertEqual(str(inspect.signature(getattr(module, name))), line, name)

    def test_each_thing_is_defined_in_its_file(self):
        for module, lines in LINES.items():
            for name in lines:
                self.assertIn(name, top_level(module))
        for name in ("TalkError", "NotSettled", "UnlikePrograms", "NothingDone"):
            self.assertIn(name, top_level(errors))

    def test_each_property_is_defined_in_its_class(self):
        for kind, names in PROPERTIES.items():
            for name in names:
                self.assertIsInstance(vars(kind)[name], property)

    def test_each_method_is_defined_in_its_class(self):
        for kind, lines in METHODS.items():
            for name, line in lines.items():
                self.assertEqual(str(inspect.signature(vars(kind)[name])), line)

    def test_the_package_itself_imports_nothing(self):
        tree = ast.parse((PACKAGE / "__init__.py").read_text())
        self.assertTrue(all(isinstance(node, ast.Expr) for node in tree.body))
        code = "import sys, wipedtalk; print([name for name in sys.modules if name.startswith('wipedtalk.')])"
        told = subprocess.run([sys.executable, "-c", code], cwd=ROOT, capture_output=True, text=True, check=True)
        self.assertEqual(told.stdout.strip(), "[]")

    def test_each_module_is_imported_alone(self):
        for name in MODULES:
            subprocess.run([sys.executable, "-c", f"import wipedtalk.{name}"], cwd=ROOT, check=True)

    def test_numbers_that_are_told_are_integers(self):
        told = runs.walked(samples.echo(), [("hand", 1), ("send",), ("pass", "forward"), ("answer",), ("send",)])
        for number in (told[0], told[1], *told[2], *told[3]):
            self.assertIs(type(number), int)
        events = runs.possible(samples.echo(), [("hand", 1), ("send",)])
        self.assertTrue(all(type(event) is tuple for event in events))
        self.assertIs(type(programs.keeps_nothing(samples.echo(), "sender")), bool)
        self.assertIs(type(verdicts.verdict(samples.echo(), [])), str)
        kind, writes = replays.breaking(families.turn(2), [])
        self.assertEqual([type(kind), type(writes), type(writes[0])], [str, list, tuple])
        self.assertIs(type(writes[0][1]), int)


if __name__ == "__main__":
    unittest.main()
