"""Orders: points 11 to 14, and the interface of crossfarers/orders.py."""

import itertools
import math
import unittest

from crossfarers.bags import Bag
from crossfarers.errors import NoRank
from crossfarers.orders import (
    arrangement_of, arrangement_rank, arrangements, circuits, cost, exchanges, mixed_digits, mixed_number,
)
from tests.helpers import Case

ROWS = (
    [], ["a"], ["b", "a"], ["b", "a", "b"], ["a", "a", "a"], ["c", "a", "b", "a"], ["b", "b", "a", "a", "c"],
    [3, 1, 2], [10, 9, 10, -1], [(0, "m", "p"), (0, "m", "-"), (0, "m", "p"), (0, "q", "-")],
    [("m", ("p",)), ("m", ()), ("m", ("p", "q"))],
)
TWELVE = ["a", "b", "c", "d", "e", "f", "g", "h", "i", "j", "k", "l"]
NO_NUMBERS = (None, True, False, -1, -(10 ** 29), "0", "", [], [0], (), (0,), {})
EXAMPLE = [("a", "c"), ("b", "b"), ("c", "d"), ("d", "a")]


def ascending_rows(row):
    """Return all arrangements of the things of the row, ascending."""
    return [list(one) for one in sorted(set(itertools.permutations(row)))]


def tables(names):
    """Return all tables of the names."""
    return [list(zip(names, images)) for images in itertools.permutations(names)]


class ArrangementsTest(Case):
    def test_numbers(self):
        for row in ROWS:
            self.same(arrangements(Bag(row)), len(ascending_rows(row)))
        self.same(arrangements(Bag()), 1)
        self.same(arrangements(Bag(TWELVE)), math.factorial(12))
        self.same(arrangements(Bag(["a", "b"] * 6)), 924)
        self.same(arrangements(bag=Bag(["b", "a"])), 2)

    def test_the_example_of_the_interface(self):
        self.same(arrangement_rank(["b", "a", "b"]), 1)

    def test_ranks_and_rows_lead_back_to_each_other(self):
        for things in ROWS:
            for rank, row in enumerate(ascending_rows(things)):
                self.same(arrangement_rank(list(row)), rank)
                self.same(arrangement_of(Bag(things), rank), row)

    def test_the_empty_list(self):
        self.same(arrangement_rank([]), 0)
        self.same(arrangement_of(Bag(), 0), [])
        self.refused(NoRank, {"number": 1, "limit": 1}, arrangement_of, Bag(), 1)

    def test_twelve_unlike_things(self):
        many = math.factorial(12)
        self.same(arrangement_rank(list(TWELVE)), 0)
        self.same(arrangement_rank(TWELVE[::-1]), many - 1)
        self.same(arrangement_of(Bag(TWELVE), many - 1), TWELVE[::-1])
        for rank in (0, 1, 7, math.factorial(11), math.factorial(11) - 1, 123456789, many - 2):
            row = arrangement_of(Bag(TWELVE), rank)
            self.same(sorted(row), TWELVE)
            self.same(arrangement_rank(row), rank)
        self.refused(NoRank, {"number": many, "limit": many}, arrangement_of, Bag(TWELVE), many)

    def test_sorted_and_descending_rows(self):
        for row in ROWS:
            self.same(arrangement_rank(sorted(row)), 0)
            self.same(arrangement_rank(sorted(row, reverse=True)), arrangements(Bag(row)) - 1)

    def test_no_rank(self):
        for row in ROWS:
            many = len(ascending_rows(row))
            for number in (many, many + 1, 10 ** 29):
                self.refused(NoRank, {"number": number, "limit": many}, arrangement_of, Bag(row), number)
                self.refused(NoRank, {"number": number, "limit": many}, arrangement_of, bag=Bag(row), number=number)

    def test_wrong_shapes(self):
        for value in (None, True, 0, "", "ab", (), ("a", "b"), {}, {"a": 1}, Bag(["a"])):
            self.misshapen("row", arrangement_rank, value)
        for value in NO_NUMBERS:
            self.misshapen("number", arrangement_of, Bag(["a"]), value)

    def test_what_is_passed_and_returned(self):
        row, bag = ["b", "a"], Bag(["b", "a"])
        arrangement_rank(row)
        arrangement_of(bag, 1).clear()
        self.same([row, list(bag), arrangement_of(bag, 1)], [["b", "a"], [("a", 1), ("b", 1)], ["b", "a"]])


class TablesTest(Case):
    def test_the_examples_of_the_interface(self):
        self.same(circuits(EXAMPLE), [("a", "c", "d"), ("b",)])
        self.same(exchanges(EXAMPLE), [("a", "c"), ("c", "d")])
        self.same(cost(EXAMPLE), 2)

    def test_the_empty_table(self):
        for table in ([], ()):
            self.same([circuits(table), cost(table), exchanges(table)], [[], 0, []])

    def test_the_identity(self):
        table = [(name, name) for name in TWELVE]
        self.same([circuits(table), cost(table), exchanges(table)], [[(name,) for name in TWELVE], 0, []])

    def test_one_circuit(self):
        table = list(zip(TWELVE, TWELVE[1:] + TWELVE[:1]))
        self.same([circuits(table), cost(table)], [[tuple(TWELVE)], 11])
        self.same(exchanges(table), list(zip(TWELVE, TWELVE[1:])))
        table = [("c", "b"), ("b", "a"), ("a", "c")]
        self.same([circuits(table), cost(table), exchanges(table)],
                  [[("a", "c", "b")], 2, [("a", "c"), ("b", "c")]])

    def test_several_circuits(self):
        table = (("e", "a"), ("d", "b"), ("c", "c"), ("b", "d"), ("a", "f"), ("f", "e"))
        self.same(circuits(table), [("a", "f", "e"), ("b", "d"), ("c",)])
        self.same([cost(table), exchanges(table)], [3, [("a", "f"), ("b", "d"), ("e", "f")]])

    def test_lists_and_tuples_in_any_order(self):
        for order in itertools.permutations(EXAMPLE):
            for table in (list(order), order):
                self.same(circuits(table), [("a", "c", "d"), ("b",)])
                self.same(exchanges(table), [("a", "c"), ("c", "d")])
                self.same(cost(table), 2)
        self.same(cost(table=EXAMPLE), 2)

    def test_all_tables_of_five_names(self):
        for table in tables(["a", "b", "b10", "b9", "c"]):
            images = dict(table)
            found = circuits(table)
            self.same(found, sorted(found))
            self.same(sorted(name for row in found for name in row), sorted(images))
            for row in found:
                self.same(row[0], min(row))
                self.same([images[name] for name in row], [*row[1:], row[0]])
            self.same(cost(table), len(table) - len(found))
            self.check_exchanges(table, exchanges(table))

    def check_exchanges(self, table, noted):
        """Check that the pairs lead from the identity to the table, name by name."""
        present = {name: name for name, _ in table}
        images = dict(table)
        self.same(len(noted), cost(table))
        self.same([first for first, _ in noted], sorted({first for first, _ in noted}))
        for first, second in noted:
            self.assertTrue(all(present[name] == images[name] for name in present if name < first))
            self.assertEqual(present[second], images[first])
            self.assertNotEqual(present[first], images[first])
            present[first], present[second] = present[second], present[first]
        self.assertEqual(present, images)

    def test_twelve_and_thirteen_pairs(self):
        pairs = [(name, name) for name in TWELVE]
        self.same(cost(pairs), 0)
        for table in (pairs + [("m", "m")], tuple(pairs + [("m", "m")])):
            for call in (circuits, cost, exchanges):
                self.misshapen("table", call, table)

    def test_wrong_tables(self):
        wrong = [
            None, True, 0, "", "ab", {}, {"a": "a"}, [None], ["aa"], [["a", "a"]], (["a", "a"],), [("a",)],
            [("a", "a", "a")], [()], [("a", "a"), ("a", "a")], [("a", "b"), ("a", "a"), ("b", "b")], [("a", "b")],
            [("a", "b"), ("b", "b")], [("a", "b"), ("b", "c")], [("a", "a"), ("b", "c")], [("-", "-")], [(1, 1)],
            [(True, True)], [(None, None)], [(["a"], ["a"])], [("a", ["a"])], [({}, "a")], [("A", "A")], ("a", "a"),
            [("a", "b"), ("a", "b"), ("b", "a")], [("a", "b"), ("b", "a"), ("b", "a")], [("abcdefghi", "abcdefghi")],
            [("a", "b"), ("b", "a"), ("c", "a")],
        ]
        for table in wrong:
            for call in (circuits, cost, exchanges):
                self.misshapen("table", call, table)

    def test_what_is_passed_and_returned(self):
        table = list(EXAMPLE)
        circuits(table).clear()
        exchanges(table).clear()
        cost(table)
        self.same(table, EXAMPLE)
        self.same([circuits(table), exchanges(table)], [[("a", "c", "d"), ("b",)], [("a", "c"), ("c", "d")]])


class MixedNumbersTest(Case):
    def test_no_digits(self):
        self.same([mixed_number([], []), mixed_digits([], 0)], [0, []])
        self.refused(NoRank, {"number": 1, "limit": 1}, mixed_digits, [], 1)

    def test_the_first_digit_weighs_most(self):
        self.same(mixed_number([2, 3, 4], [1, 2, 3]), 23)
        self.same(mixed_number([2, 3, 4], [1, 0, 0]), 12)
        self.same(mixed_number([2, 3, 4], [0, 1, 0]), 4)
        self.same(mixed_digits([2, 3, 4], 12), [1, 0, 0])
        self.same(mixed_digits([10, 10, 10], 507), [5, 0, 7])
        self.same(mixed_number(bases=[10, 7], digits=[3, 6]), 27)
        self.same(mixed_digits(bases=[10, 7], number=27), [3, 6])

    def test_they_lead_back_to_each_other(self):
        for bases in ([2, 3, 4], [4, 1, 2], [1], [1, 1], [5], [3, 1, 1, 3]):
            rows = [list(row) for row in itertools.product(*[range(base) for base in bases])]
            for number, digits in enumerate(rows):
                self.same(mixed_number(bases, digits), number)
                self.same(mixed_digits(bases, number), digits)
            limit = len(rows)
            for number in (limit, limit + 1, 10 ** 29):
                self.refused(NoRank, {"number": number, "limit": limit}, mixed_digits, bases, number)

    def test_sixty_bases(self):
        bases = [1000] * 60
        self.same(mixed_number(bases, [999] * 60), 1000 ** 60 - 1)
        self.same(mixed_digits(bases, 1000 ** 60 - 1), [999] * 60)
        self.same(mixed_digits(bases, 1000 ** 59), [1] + [0] * 59)
        self.refused(NoRank, {"number": 1000 ** 60, "limit": 1000 ** 60}, mixed_digits, bases, 1000 ** 60)
        self.misshapen("bases", mixed_number, [1] * 61, [0] * 61)
        self.misshapen("bases", mixed_digits, [1] * 61, 0)

    def test_ends_of_the_bases(self):
        self.same([mixed_number([1], [0]), mixed_number([1000], [999])], [0, 999])
        self.same([mixed_digits([1], 0), mixed_digits([1000], 999)], [[0], [999]])
        for base in (0, 1001, -1, True, False, None, "2", [2], (2,), {}):
            self.misshapen("bases", mixed_number, [base], [0])
            self.misshapen("bases", mixed_number, [2, base], [0, 0])
            self.misshapen("bases", mixed_number, [base, 2], [])
            self.misshapen("bases", mixed_digits, [2, base], 0)

    def test_wrong_lists(self):
        for value in (None, True, 0, "", "2", (), (2,), {}, {2: 0}):
            self.misshapen("bases", mixed_number, value, [0])
            self.misshapen("bases", mixed_digits, value, 0)
            self.misshapen("digits", mixed_number, [2], value)
        self.misshapen("digits", mixed_number, [], ())

    def test_wrong_digits(self):
        for digit in (2, 3, -1, True, False, None, "0", [0], (0,), {}):
            self.misshapen("digits", mixed_number, [2], [digit])
            self.misshapen("digits", mixed_number, [3, 2], [0, digit])
            self.misshapen("digits", mixed_number, [2, 3], [digit, 0])
        self.misshapen("digits", mixed_number, [2, 5], [4, 1])
        self.misshapen("digits", mixed_number, [1000], [1000])

    def test_unlike_lengths(self):
        for bases, digits in (([2], []), ([], [0]), ([2, 2], [0]), ([2], [0, 0])):
            self.misshapen("digits", mixed_number, bases, digits)

    def test_both_parameters_wrong(self):
        self.misshapen("bases", mixed_number, None, None)
        self.misshapen("bases", mixed_number, [0], [5])
        self.misshapen("bases", mixed_digits, [0], -1)
        self.misshapen("bases", mixed_digits, [0], 10 ** 29)

    def test_wrong_numbers(self):
        for value in NO_NUMBERS:
            self.misshapen("number", mixed_digits, [2, 3], value)

    def test_what_is_passed_and_returned(self):
        bases, digits = [2, 3], [1, 2]
        mixed_number(bases, digits)
        mixed_digits(bases, 5).clear()
        self.same([bases, digits, mixed_digits(bases, 5)], [[2, 3], [1, 2], [1, 2]])


if __name__ == "__main__":
    unittest.main()
