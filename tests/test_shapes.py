"""Shapes: points 4, 6, 7 and 8, and the interface of crossfarers/shapes.py."""

import unittest

from crossfarers import shapes
from crossfarers.bags import Bag
from crossfarers.worlds import Web, World
from tests.helpers import Case

WEB = Web(["m"])
NEVER = (
    None, True, False, [], (), {}, {"a": 1}, [[]], ([],), ({},), [None], (None,), [True], 10 ** 29, -(10 ** 29),
    1 - 10, "A", "-a", "a b", "\n", "9", ["a"], [1], ("a", "b"), ("a", "b", "c", "d", "e", "f", "g", "h", "i"),
    ((),), (((),),), WEB, World(WEB, {"ann": ("m",)}), Bag(["a"]),
)

NAMES = ("a", "z", "a0", "a9z", "abcdefgh", "z1234567", "az", "end", "zzzzzzzz")
NO_NAMES = (
    "", "-", "abcdefghi", "a23456789", "0", "0a", "9a", "A", "aB", "a_", "_a", "a-", "a b", " a", "a ", "a\n", "\n",
    "a.b", "Z", "`", "{", "a{", "a`", "a/", "a:", 1, 0, ["a"], ("a",), {"a": "b"},
)


class ShapesCase(Case):
    def check(self, function, right, wrong):
        for value in right:
            with self.subTest(function=function.__name__, right=value):
                self.assertIs(function(value), True)
        for value in [*wrong, *NEVER]:
            with self.subTest(function=function.__name__, wrong=value):
                self.assertIs(function(value), False)


class ShapesTest(ShapesCase):
    def test_constants(self):
        self.same(shapes.END, "-")
        self.same(shapes.LAST_DAY, 6)
        self.same(shapes.MOST_TOWNS, 8)
        self.same(shapes.MOST_TRAVELLERS, 6)
        self.same(shapes.MOST_DEEDS, 60)

    def test_end_stands_before_every_name(self):
        for name in NAMES:
            self.assertLess(shapes.END, name)

    def test_names(self):
        self.check(shapes.is_name, NAMES, NO_NAMES)

    def test_every_sign_of_a_name(self):
        for code in range(32, 127):
            sign = chr(code)
            self.assertIs(shapes.is_name(sign), "a" <= sign <= "z", sign)
            self.assertIs(shapes.is_name("a" + sign), "a" <= sign <= "z" or "0" <= sign <= "9", sign)
            self.assertIs(shapes.is_name("abcdefg" + sign), "a" <= sign <= "z" or "0" <= sign <= "9", sign)

    def test_places(self):
        self.check(shapes.is_place, [*NAMES, "-"], [value for value in NO_NAMES if value != "-"])
        self.check(shapes.is_place, [*NAMES, "-"], ["--", "a-", "- ", ["-"], ("-",)])

    def test_days(self):
        self.check(shapes.is_day, [0, 1, 2, 3, 4, 5, 6], [-1, 7, 8, 60, "0", "a", [0], (0,), {0: 0}])

    def test_numbers(self):
        right = [0, 1, 6, 7, 61, 1000, 10 ** 30, 10 ** 40]
        for value in right:
            self.assertIs(shapes.is_number(value), True)
        for value in [-1, -7, -(10 ** 29), True, False, None, "0", "a", [0], (0,), {}, [], ()]:
            self.assertIs(shapes.is_number(value), False)

    def test_plans(self):
        row = ("m", "p", "q", "m", "m", "p", "q")
        right = [row[:many] for many in range(1, 8)] + [("a",) * 7]
        wrong = [
            row + ("m",), ("m",) * 8, list(row), ["m"], "m", ("m", "-"), ("-",), ("m", 1), ("m", None), ("m", ["p"]),
            ("m", ("p",)), ("m", ""), ("abcdefghi",), ("m", True), {"m": 1}, 1,
        ]
        for value in right:
            self.assertIs(shapes.is_plan(value), True)
        for value in wrong + [value for value in NEVER if value != ("a", "b")]:
            self.assertIs(shapes.is_plan(value), False, value)

    def test_crossings(self):
        right = [(0, "m"), (6, "m"), (3, "abcdefgh")]
        wrong = [
            (-1, "m"), (7, "m"), (True, "m"), (False, "m"), (None, "m"), ("0", "m"), (0, "-"), (0, "abcdefghi"),
            (0, ""), (0, None), (0, 1), (0, ["m"]), ([0], "m"), [0, "m"], (0,), ("m",), (0, "m", "p"), ("m", 0),
            (0, "m", "-"), ((0, "m"),),
        ]
        self.check(shapes.is_crossing, right, wrong)

    def test_legs(self):
        right = [
            (0, "m", "p"), (0, "m", "m"), (5, "m", "p"), (5, "m", "m"), (0, "m", "-"), (5, "m", "-"), (6, "m", "-"),
            (3, "abcdefgh", "abcdefgh"),
        ]
        wrong = [
            (6, "m", "p"), (6, "m", "m"), (7, "m", "-"), (7, "m", "p"), (-1, "m", "p"), (-1, "m", "-"),
            (True, "m", "p"), (False, "m", "-"), (None, "m", "p"), ("0", "m", "p"), (0, "-", "m"), (0, "-", "-"),
            (0, "abcdefghi", "m"), (0, "m", "abcdefghi"), (0, "m", ""), (0, "m", "--"), (0, "m", None), (0, "m", 1),
            (0, "m", ["p"]), (0, ["m"], "p"), (0, None, "p"), [0, "m", "p"], [6, "m", "-"], (0, "m"),
            (0, "m", "p", "q"), (0, "m", "p", "-"), ("m", "p", 0), (0, ("m", "p")), ((0, "m"), "p"),
        ]
        self.check(shapes.is_leg, right, wrong)

    def test_deeds(self):
        right = [("ann", "bob", 0), ("ann", "bob", 6), ("ann", "ann", 3), ("bob", "ann", 1), ("abcdefgh", "a", 0)]
        wrong = [
            ("ann", "bob", -1), ("ann", "bob", 7), ("ann", "bob", True), ("ann", "bob", False), ("ann", "bob", None),
            ("ann", "bob", "0"), ("ann", "-", 0), ("-", "bob", 0), ("abcdefghi", "bob", 0), ("ann", "abcdefghi", 0),
            (["ann"], "bob", 0), ("ann", ["bob"], 0), ("ann", "bob", [0]), ["ann", "bob", 0], ("ann", "bob"),
            ("ann", 0), ("ann", "bob", 0, 0), (0, "ann", "bob"), (("ann", "bob"), 0), (None, "bob", 0),
        ]
        self.check(shapes.is_deed, right, wrong)

    def test_histories(self):
        deed = ("ann", "bob", 0)
        for value in ([], [deed], [deed, ("bob", "bob", 6)], [deed] * 59, [deed] * 60):
            self.assertIs(shapes.is_history(value), True)
        wrong = [
            [deed] * 61, [deed] * 62, (), (deed,), deed, list(deed), [list(deed)], [deed, ("ann", "bob", 7)],
            [("ann", "bob", True), deed], [deed, None], [None], [[]], [()], [deed, deed + (1,)], {}, {deed: 1}, "",
            None, True, 0,
        ]
        for value in wrong:
            self.assertIs(shapes.is_history(value), False, value)

    def test_sightings(self):
        right = [("ann", 0, "m"), ("ann", 6, "m"), ("ann", 0, "-"), ("ann", 6, "-"), ("m", 3, "m")]
        wrong = [
            ("ann", -1, "m"), ("ann", 7, "m"), ("ann", True, "m"), ("ann", False, "-"), ("ann", None, "m"),
            ("ann", "0", "m"), ("-", 0, "m"), ("", 0, "m"), ("abcdefghi", 0, "m"), ("ann", 0, "abcdefghi"),
            ("ann", 0, ""), ("ann", 0, None), ("ann", 0, 1), (["ann"], 0, "m"), ("ann", [0], "m"), ("ann", 0, ["m"]),
            ["ann", 0, "m"], ("ann", 0), ("ann", 0, "m", "p"), (0, "ann", "m"), ("ann", "m", 0),
        ]
        self.check(shapes.is_sighting, right, wrong)

    def test_the_examples_of_the_interface(self):
        self.assertIs(shapes.is_leg((6, "m", "-")), True)
        self.assertIs(shapes.is_leg((6, "m", "m")), False)


if __name__ == "__main__":
    unittest.main()
