"""drawnrings.errors: what each class has, and what it is under."""

import unittest

from drawnrings import errors
from tests.helpers import Case, values_of_all_kinds

BASES = {"WrongValue": ValueError, "WrongName": LookupError, "NoAnswer": ArithmeticError}

KINDS = {
    "WrongValue": {
        "InvalidCloth": ("given",),
        "InvalidMove": ("given",),
        "InvalidText": ("given",),
        "InvalidName": ("given",),
        "InvalidNumber": ("given",),
        "InvalidPlace": ("given",),
        "InvalidWish": ("given",),
        "NotAScript": ("given",),
        "InvalidRows": ("index",),
        "InvalidStanding": ("index",),
        "InvalidSeen": ("index",),
        "InvalidExchanges": ("index",),
        "InvalidWishes": ("index",),
    },
    "WrongName": {"UnknownName": ("given",), "InUse": ("index",)},
    "NoAnswer": {
        "Unknown": ("index",),
        "TooFew": ("given",),
        "TooMany": ("given",),
        "Broken": ("index", "shown"),
        "NothingToUndo": (),
    },
}


def all_kinds():
    return [(base, name, names) for base, kinds in KINDS.items() for name, names in kinds.items()]


class Errors(Case):
    def test_base_classes(self):
        for name, above in BASES.items():
            with self.subTest(name):
                self.assertEqual(getattr(errors, name).__bases__, (above,))
                self.assertTrue(issubclass(getattr(errors, name), Exception))

    def test_each_kind_is_under_one_base_class_and_no_other_class(self):
        for base, name, _ in all_kinds():
            with self.subTest(name):
                self.assertEqual(getattr(errors, name).__bases__, (getattr(errors, base),))
                self.assertEqual(getattr(errors, name).__module__, "drawnrings.errors")

    def test_made_by_position(self):
        for _, name, names in all_kinds():
            passed = [object() for _ in names]
            made = getattr(errors, name)(*passed)
            for attribute, value in zip(names, passed):
                with self.subTest(name, attribute=attribute):
                    self.assertIs(getattr(made, attribute), value)

    def test_made_by_name(self):
        for _, name, names in all_kinds():
            passed = {attribute: object() for attribute in reversed(names)}
            made = getattr(errors, name)(**passed)
            for attribute, value in passed.items():
                with self.subTest(name, attribute=attribute):
                    self.assertIs(getattr(made, attribute), value)

    def test_attributes_may_be_anything(self):
        for _, name, names in all_kinds():
            for value in values_of_all_kinds():
                made = getattr(errors, name)(*[value for _ in names])
                for attribute in names:
                    with self.subTest(name, attribute=attribute):
                        self.assertIs(getattr(made, attribute), value)

    def test_raised_and_caught_under_all_their_bases(self):
        for base, name, names in all_kinds():
            for above in (getattr(errors, name), getattr(errors, base), BASES[base]):
                with self.subTest(name, above=above), self.assertRaises(above):
                    raise getattr(errors, name)(*[None for _ in names])

    def test_base_classes_do_not_catch_each_other(self):
        for base, name, _ in all_kinds():
            for other in BASES:
                with self.subTest(name, other=other):
                    under = issubclass(getattr(errors, name), getattr(errors, other))
                    self.assertEqual(under, other == base)

    def test_errors_are_true(self):
        for _, name, names in all_kinds():
            with self.subTest(name):
                self.assertTrue(getattr(errors, name)(*[0 for _ in names]))
