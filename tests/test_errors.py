"""watchtree.errors: each class, the one above it, and its fields."""

import unittest

from tests.samples import ALL_KINDS
from watchtree import errors

BASES = (("PlanError", ValueError), ("TreeError", RuntimeError), ("AbsentError", LookupError))

CLASSES = (
    ("BadSetting", "PlanError", ("setting",)),
    ("BadChild", "PlanError", ("index",)),
    ("BadRoot", "PlanError", ("rule",)),
    ("BadText", "PlanError", ("line",)),
    ("BadTick", "PlanError", ("value",)),
    ("BadReason", "PlanError", ("value",)),
    ("BadScript", "PlanError", ("index",)),
    ("BadWord", "PlanError", ("value",)),
    ("BadValue", "PlanError", ("value",)),
    ("BadEntry", "PlanError", ("index",)),
    ("BadInput", "PlanError", ("index",)),
    ("Over", "TreeError", ()),
    ("NotRunning", "TreeError", ("place",)),
    ("NotSupervisor", "TreeError", ("place",)),
    ("NotWorker", "TreeError", ("place",)),
    ("NotQuiet", "TreeError", ()),
    ("NoPlace", "AbsentError", ("place",)),
    ("NoMessage", "AbsentError", ("message",)),
    ("NoEntry", "AbsentError", ("entry",)),
)


class ErrorClasses(unittest.TestCase):
    def test_each_base_is_directly_under_its_builtin_class(self):
        for name, builtin in BASES:
            with self.subTest(name):
                self.assertEqual(getattr(errors, name).__bases__, (builtin,))

    def test_each_class_is_directly_under_its_base(self):
        for name, base, _ in CLASSES:
            with self.subTest(name):
                self.assertEqual(getattr(errors, name).__bases__, (getattr(errors, base),))

    def test_each_class_has_one_class_of_the_package_above_it(self):
        for name, base, _ in CLASSES:
            with self.subTest(name):
                found = getattr(errors, name)
                above = [one for one in found.__mro__[1:] if one.__module__.startswith("watchtree")]
                self.assertEqual(above, [getattr(errors, base)])

    def test_all_are_different_classes_of_this_file(self):
        found = [getattr(errors, name) for name, *_ in BASES + CLASSES]
        self.assertEqual(len(set(found)), len(found))
        for one, (name, *_) in zip(found, BASES + CLASSES):
            self.assertEqual((one.__name__, one.__module__), (name, "watchtree.errors"))

    def test_fields_by_position_and_by_name(self):
        for name, _, fields in CLASSES:
            for value in ALL_KINDS:
                with self.subTest(name, value=id(value)):
                    by_position = getattr(errors, name)(*[value for _ in fields])
                    by_name = getattr(errors, name)(**{field: value for field in fields})
                    for field in fields:
                        self.assertIs(getattr(by_position, field), value)
                        self.assertIs(getattr(by_name, field), value)

    def test_there_are_no_other_parameters(self):
        for name, _, fields in CLASSES:
            with self.subTest(name):
                found = getattr(errors, name)
                self.assertRaises(TypeError, lambda: found(*range(len(fields) + 1)))
                self.assertRaises(TypeError, lambda: found(**{field: 1 for field in fields}, more=1))
                if fields:
                    self.assertRaises(TypeError, found)

    def test_they_are_raised_and_caught_by_each_class_above(self):
        builtins = dict(BASES)
        for name, base, fields in CLASSES:
            for caught in (getattr(errors, name), getattr(errors, base), builtins[base]):
                with self.subTest(name, caught=caught):
                    with self.assertRaises(caught) as told:
                        raise getattr(errors, name)(*["told" for _ in fields])
                    self.assertEqual([getattr(told.exception, field) for field in fields], ["told" for _ in fields])


if __name__ == "__main__":
    unittest.main()
