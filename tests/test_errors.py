"""The error classes: point 5 and the interface of crossfarers/errors.py."""

import unittest

from crossfarers import errors
from tests.helpers import Case

ATTRIBUTES = {
    "BadShape": ("parameter",),
    "BadText": ("line",),
    "BadErrand": ("line",),
    "Lacking": ("thing", "have", "wanted"),
    "NoRank": ("number", "limit"),
    "Repeated": ("thing",),
    "UnknownTown": ("town",),
    "UnknownTraveller": ("name",),
    "SameTown": ("town",),
    "NoWay": ("day", "here", "there"),
    "SameTraveller": ("name",),
    "PlanOver": ("name", "day"),
    "UnlikeTowns": ("first", "second"),
    "PlanTooLong": ("name",),
    "PlanGap": ("name", "day"),
    "Unbalanced": ("crossing", "arriving", "leaving"),
    "StepRefused": ("at", "reason"),
    "NoStep": ("at", "limit"),
    "SameCrossing": ("crossing",),
    "NoShuffle": ("crossing",),
    "NotJoining": ("crossing",),
    "UnlikeFrames": ("part",),
    "UnlikeClasses": ("paper",),
    "NotMap": ("day",),
    "NoLength": ("number",),
    "Unfit": ("town", "standing", "rests"),
    "TooMany": ("what", "number"),
    "ErrandStopped": ("line", "reason", "history"),
    "LastTraveller": ("name",),
    "NothingToUndo": (),
    "BadRow": ("at", "reason"),
}


class ErrorsTest(Case):
    def test_the_base_class_stands_under_value_error(self):
        self.assertEqual(errors.CrossError.__bases__, (ValueError,))
        with self.assertRaises(ValueError):
            raise errors.CrossError()

    def test_all_others_stand_directly_under_it(self):
        for name in ATTRIBUTES:
            with self.subTest(name=name):
                self.assertEqual(getattr(errors, name).__bases__, (errors.CrossError,))

    def test_there_are_no_other_classes(self):
        here = [name for name, value in vars(errors).items() if isinstance(value, type)]
        self.assertEqual(sorted(here), sorted([*ATTRIBUTES, "CrossError"]))

    def test_attributes_by_position_are_kept_as_they_are(self):
        for name, attributes in ATTRIBUTES.items():
            with self.subTest(name=name):
                values = [[name, at] for at in range(len(attributes))]
                error = getattr(errors, name)(*values)
                self.assertEqual(tuple(vars(error)), attributes)
                for attribute, value in zip(attributes, values):
                    self.assertIs(getattr(error, attribute), value)

    def test_nothing_is_checked(self):
        for name, attributes in ATTRIBUTES.items():
            for value in (None, True, -1, "", [], {}, (1,)):
                error = getattr(errors, name)(*[value for _ in attributes])
                self.assertEqual(list(vars(error).values()), [value for _ in attributes])

    def test_the_number_of_attributes_is_fixed(self):
        for name, attributes in ATTRIBUTES.items():
            if not attributes:
                continue
            with self.subTest(name=name):
                kind = getattr(errors, name)
                with self.assertRaises(TypeError):
                    kind(*[1 for _ in attributes[1:]])
                with self.assertRaises(TypeError):
                    kind(1, *[1 for _ in attributes])

    def test_nothing_to_undo_has_no_attributes(self):
        self.assertEqual(vars(errors.NothingToUndo()), {})

    def test_an_error_can_be_caught_as_cross_error(self):
        with self.assertRaises(errors.CrossError):
            raise errors.PlanOver("ann", 3)


if __name__ == "__main__":
    unittest.main()
