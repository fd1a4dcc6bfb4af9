"""The whole program: all examples of the document in their order, its interface, and questions in any order."""

import importlib
import inspect
import random
import unittest

from drawnrings import asking, bounds, certificates, checker, mends, seen
from drawnrings.console import Console
from drawnrings.desks import Desk
from drawnrings.rails import Rail
from drawnrings.scripts import Script
from tests.examples import EXAMPLES
from tests.helpers import Case, pseudo_scripts, values_of_all_kinds

# Each function, class and method of the interface with the names of its parameters.
INTERFACE = {
    "scripts": {
        "Script": "*rows", "Script.read": "text", "Script.with_row": "index row", "Script.rows": None,
        "Script.text": None,
        "Script.cloth": None, "Script.least": None, "Script.known": None, "Script.change": None,
    },
    "rails": {
        "is_standing": "cloth places", "Rail": "cloth places", "Rail.move": "move", "Rail.draw": "index place",
        "Rail.undo": "",
        "Rail.follow": "script", "Rail.cloth": None, "Rail.places": None, "Rail.changes": None, "led": "script places",
    },
    "bounds": {
        "bounds": "script n ring", "reach": "script n ring", "spread": "script n", "dark": "script n",
        "sure": "script n",
    },
    "asking": {
        "covers": "script a b", "frees": "script a b", "parting": "one other", "needless": "script", "pruned": "script",
        "dark_from": "script n", "always_sure": "script",
    },
    "seen": {"starts_seen": "script n seen"},
    "mends": {"fault": "script wish", "mending": "script exchanges wishes"},
    "desks": {
        "Desk": "", "Desk.put": "name script", "Desk.named": "name", "Desk.drop": "name", "Desk.wish": "wish",
        "Desk.lift": "index",
        "Desk.undo": "", "Desk.trial": "", "Desk.tried": "action", "Desk.names": None, "Desk.wishes": None,
        "Desk.changes": None,
    },
    "checker": {"accepts": "claim certificate"},
    "certificates": {
        "certify_alike": "one other", "certify_window": "script a b n", "certify_kept": "script a b n",
    },
    "console": {"Console": "script", "Console.script": None, "Console.say": "line"},
}

LENGTHS = {"scripts": "Script", "rails": "Rail", "desks": "Desk"}

ERRORS = {
    "given": "InvalidCloth InvalidMove InvalidText InvalidName InvalidNumber InvalidPlace InvalidWish NotAScript "
             "UnknownName TooFew TooMany",
    "index": "InvalidRows InvalidStanding InvalidSeen InvalidExchanges InvalidWishes InUse Unknown",
    "index shown": "Broken",
    "": "NothingToUndo",
}


def parameters(call):
    return " ".join(str(told) for told in inspect.signature(call).parameters.values() if told.name != "self")


class Examples(unittest.TestCase):
    def lines(self):
        """Pairs of what is typed and what the document says comes of it, None where it says nothing."""
        told = []
        for line in EXAMPLES.splitlines():
            if line.startswith(">>> "):
                told.append([line[4:], None])
            else:
                self.assertIsNone(told[-1][1])
                told[-1][1] = line
        return told

    def test_all_in_their_order(self):
        names = {}
        asked = 0
        for typed, wanted in self.lines():
            with self.subTest(typed):
                if wanted is None:
                    exec(typed, names)
                elif wanted.startswith("raises "):
                    with self.assertRaises(Exception) as caught:
                        exec(typed, names)
                    error = caught.exception
                    shown = ", ".join(f"{name}={value!r}" for name, value in vars(error).items())
                    self.assertEqual(f"raises {type(error).__name__}({shown})", wanted)
                else:
                    self.assertEqual(repr(eval(typed, names)), wanted)
                    asked = asked + 1
        self.assertGreater(asked, 20)


class Interface(unittest.TestCase):
    def test_names_files_and_parameters(self):
        for file, rows in INTERFACE.items():
            module = importlib.import_module(f"drawnrings.{file}")
            for name, wanted in rows.items():
                with self.subTest(name, file=file):
                    top, _, method = name.partition(".")
                    told = vars(module)[top]
                    self.assertEqual(told.__module__, f"drawnrings.{file}")
                    if method:
                        # Each method stands in the class itself.
                        self.assertIn(method, vars(told))
                        self.assertIs(isinstance(vars(told)[method], property), wanted is None)
                    if wanted is not None:
                        self.assertEqual(parameters(getattr(told, method) if method else told), wanted)

    def test_lengths_texts_and_equality(self):
        for file, name in LENGTHS.items():
            self.assertIn("__len__", vars(vars(importlib.import_module(f"drawnrings.{file}"))[name]))
        for name in ("__str__", "__repr__", "__eq__", "__bool__"):
            self.assertIn(name, vars(Script))

    def test_errors(self):
        module = importlib.import_module("drawnrings.errors")
        for wanted, names in ERRORS.items():
            for name in names.split(" "):
                with self.subTest(name):
                    told = vars(module)[name]
                    values = [object() for _ in wanted.split()]
                    made = told(*values)
                    self.assertEqual([getattr(made, word) for word in wanted.split()], values)
                    made = told(**dict(zip(wanted.split(), values)))
                    self.assertEqual([getattr(made, word) for word in wanted.split()], values)


class AnyOrder(Case):
    """Questions of all kinds about one script, twice each, in any order: answered as for a script made anew."""

    def questions(self, rows, told):
        script = Script(*rows)
        n = script.least + told.randint(0, 20)
        ring = told.randint(1, n + script.change)
        a, b = told.randint(-20, 0), told.randint(2, 20)
        wishes = (("covers", a, b, n), ("still", n), ("alike", Script(*rows[:2])), ("frees", a, b, 1))
        lines = (
            "least", f"rings {n}", f"ring {ring} of {n}", f"sure of {n}", f"dark of {n}", f"covers {a} {b}",
            f"frees {a} {b}",
        )
        asked = [
            lambda one: (one.rows, one.text, one.cloth, one.least, one.known, one.change, len(one), repr(one)),
            lambda one: bounds.reach(one, n, ring), lambda one: bounds.dark(one, n), lambda one: bounds.sure(one, n),
            lambda one: asking.covers(one, a, b), lambda one: asking.dark_from(one, n),
            lambda one: asking.always_sure(one),
            lambda one: [mends.fault(one, wish) for wish in wishes],
            lambda one: [Console(one).say(line) for line in lines],
            lambda one: mends.mending(one, ((0, "cloth 1 9"), (0, "cloth 2 3")), wishes[:2]),
            lambda one: [checker.accepts((word, one.text, a, b, n), ()) for word in ("covered", "free", "open")],
            lambda one: checker.accepts(("kept", one.text, a, b, n), n + 99),
        ]
        if script.known:
            asked += [
                lambda one: bounds.bounds(one, n, ring), lambda one: bounds.spread(one, n),
                lambda one: asking.frees(one, a, b),
                lambda one: asking.parting(one, Script(*rows[:3])), lambda one: asking.needless(one),
                lambda one: asking.pruned(one).rows, lambda one: seen.starts_seen(one, n, ((ring, 0),)),
                lambda one: certificates.certify_alike(one, one), lambda one: certificates.certify_window(one, a, b, n),
                lambda one: certificates.certify_kept(one, a, b, n),
            ]
        return asked

    def test_twice_each_in_any_order(self):
        told = random.Random("any order")
        for rows in pseudo_scripts("any order", 60, 6, 12, with_some=True):
            asked = self.questions(rows, told) * 2
            told.shuffle(asked)
            script = Script(*rows)
            for question in asked:
                self.assertEqual(question(script), question(Script(*rows)), rows)
            self.assertEqual(script, Script(*rows))
            self.assertEqual((script.rows, str(script)), (rows, "\n".join(rows)))

    def test_rails_and_desks_stay_as_they_were(self):
        told = random.Random("as they were")
        for rows in pseudo_scripts("as they were", 40, 5, 9):
            script = Script(*rows)
            rail = Rail((2, 5), (0, 3, 7))
            rail.move("left 1 to 4")
            desk = Desk()
            desk.put("a", script)
            desk.wish(("alike", "a", "a"))
            before = (rail.cloth, rail.places, rail.changes, desk.names, desk.wishes, desk.changes)
            console = Console(desk.named("a"))
            for question in self.questions(rows, told):
                question(desk.named("a"))
                question(console.script)
            self.assertEqual((rail.cloth, rail.places, rail.changes, desk.names, desk.wishes, desk.changes), before)
            self.assertIs(desk.named("a"), script)
            self.assertIs(console.script, script)

    def test_what_was_returned_may_be_passed(self):
        night = Script("cloth 2 5", "left 1 to 0", "right 1 to 20")
        for call, args in (
            (certificates.certify_alike, (night, night)), (certificates.certify_window, (night, 0, 20, 5)),
            (certificates.certify_kept, (night, 0, 20, 5)), (certificates.certify_kept, (night, 0, 20, 1)),
        ):
            claim, paper = call(*args)
            self.assertIs(checker.accepts(claim, paper), True)
            self.assertEqual(Script.read(claim[1]), night)
        a, b = asking.dark_from(night, 13)
        self.assertEqual(Console(night).say(f"covers {a} {b}"), "13 on")
        first = asking.covers(night, -10 ** 40, 20)[0][0]
        self.assertIs(checker.accepts(("covered", night.text, -10 ** 40, 20, first), ()), True)
        self.assertIs(checker.accepts(("open", night.text, -10 ** 40, 20, first - 1), ()), True)
        least = bounds.reach(night, first, 1)[0]
        self.assertEqual(Console(night).say(f"ring 1 of {first}"), f"at {least}")


class Equality(Case):
    def test_objects_are_equal_only_where_the_document_says_so(self):
        rows = ("cloth 2 5", "left 1 to 0")
        objects = [Script(*rows), Rail((2, 5), (0, 3)), Desk(), Console(Script(*rows)), Desk().trial()]
        others = [Script("cloth 2 5"), Rail((2, 5), (0, 3)), Desk(), Console(Script(*rows)), Desk().trial()]
        for at, one in enumerate(objects):
            for other in (*objects[:at], *objects[at + 1:], *others, *values_of_all_kinds()[:-2]):
                self.assertIs(one == other, False)
                self.assertIs(one != other, True)
            self.assertIs(one == one, True)
            self.assertIs(one != one, False)
            self.assertIs(bool(one), True)
        self.assertIs(objects[0] == Script(*rows), True)
        self.assertIs(objects[0] != Script(*rows), False)


if __name__ == "__main__":
    unittest.main()
