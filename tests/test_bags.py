"""Bags: points 3, 9 and 10, and the interface of crossfarers/bags.py."""

import itertools
import unittest

from crossfarers.bags import Bag
from crossfarers.errors import Lacking
from crossfarers.worlds import Web
from tests.helpers import Case

LEGS = [(0, "m", "p"), (0, "m", "-"), (1, "p", "p"), (0, "m", "p")]
RESTS = [("m", ("p", "q")), ("m", ()), ("m", ("p",)), ("m", ())]
DEEP = [(1, ("a", (2, ("b", 3)))), (1, ("a", (2, ("b", 1)))), (1, ("a", (2, ("b", 3))))]


def doubled(bag, times):
    """Return the bag with each number multiplied by 2 as often as told."""
    for _ in range(times):
        bag = bag + bag
    return bag


class BagsTest(Case):
    def test_numbers(self):
        bag = Bag(["b", "a", "b", "c", "b"])
        self.same([bag["a"], bag["b"], bag["c"], bag["d"], bag[""]], [1, 3, 1, 0, 0])
        self.same([Bag((7, 10 ** 29, 7))[7], Bag([7])[8], Bag([-3])[-3]], [2, 0, 1])
        self.same([Bag(LEGS)[(0, "m", "p")], Bag(LEGS)[(0, "m", "q")]], [2, 0])

    def test_in(self):
        bag = Bag(["b", "a", "b"])
        self.same(["a" in bag, "b" in bag, "c" in bag, "" in bag], [True, True, False, False])
        self.same([0 in Bag([0]), 1 in Bag([0]), (0, "m", "-") in Bag(LEGS), (1, "m", "-") in Bag(LEGS)],
                  [True, False, True, False])

    def test_in_raises_nothing(self):
        for bag in (Bag(["a"]), Bag([1, 0]), Bag(LEGS), Bag(RESTS), Bag(DEEP), Bag()):
            for value in (None, True, False, [], {}, ["a"], {"a": 1}, ([],), (0, ["m"], "p"), ("m", [])):
                self.assertIs(value in bag, False)
        self.same([DEEP[0] in Bag(DEEP), RESTS[1] in Bag(RESTS), (1, ("a", (2, ("b", 2)))) in Bag(DEEP)],
                  [True, True, False])

    def test_a_thing_taken_away_wholly_is_not_in_the_bag(self):
        bag = Bag(["a", "b"]) - Bag(["a"])
        self.same(["a" in bag, bag["a"], list(bag), bag.kinds, bag.many], [False, 0, [("b", 1)], 1, 1])
        self.assertTrue(bag == Bag(["b"]))

    def test_iteration_is_ascending(self):
        self.same(list(Bag(["ba", "b9", "b", "b10", "b"])), [("b", 2), ("b10", 1), ("b9", 1), ("ba", 1)])
        self.same(list(Bag((10, 9, -1, 9))), [(-1, 1), (9, 2), (10, 1)])
        self.same(list(Bag(LEGS)), [((0, "m", "-"), 1), ((0, "m", "p"), 2), ((1, "p", "p"), 1)])
        self.same(list(Bag(RESTS)), [(("m", ()), 2), (("m", ("p",)), 1), (("m", ("p", "q")), 1)])
        self.same(list(Bag(DEEP)), [(DEEP[1], 1), (DEEP[0], 2)])

    def test_sums_and_differences_iterate_ascending(self):
        self.same(list(Bag(["c", "b"]) + Bag(["a", "c"])), [("a", 1), ("b", 1), ("c", 2)])
        self.same(list(Bag(["a", "c", "b", "c"]) - Bag(["c", "a"])), [("b", 1), ("c", 1)])

    def test_things(self):
        for row in (["b", "a", "b"], [3, 1, 2, 1, 1], LEGS, RESTS, DEEP, []):
            for order in itertools.islice(itertools.permutations(row), 30):
                self.same(Bag(list(order)).things(), sorted(row))
                self.same(Bag(order).things(), sorted(row))

    def test_many_and_kinds(self):
        self.same([Bag(["b", "a", "b"]).many, Bag(["b", "a", "b"]).kinds], [3, 2])
        self.same([Bag([5]).many, Bag([5]).kinds, Bag(LEGS).many, Bag(LEGS).kinds], [1, 1, 4, 3])

    def test_the_empty_bag(self):
        for bag in (Bag(), Bag([]), Bag(()), Bag(["a"]) - Bag(["a"])):
            self.same([bag.many, bag.kinds, list(bag), bag.things(), bag["a"], "a" in bag], [0, 0, [], [], 0, False])
            self.assertIs(bag == Bag(), True)
            self.assertIs(bag.within(Bag([1])), True)
            self.assertIs(bag.within(bag), True)
            self.assertIs(Bag([1]).within(bag), False)
            self.assertIs((bag + Bag([1])) == Bag([1]), True)
            self.assertIs((Bag([1]) + bag) == Bag([1]), True)
            self.assertIs((Bag([1]) - bag) == Bag([1]), True)
            self.refused(Lacking, {"thing": 1, "have": 0, "wanted": 1}, lambda: bag - Bag([1]))
            self.assertIs(bag.first_unlike(Bag()), None)
            self.same(bag.first_unlike(Bag([4])), (4, 0, 1))
            self.same(Bag([4]).first_unlike(bag), (4, 1, 0))

    def test_equality(self):
        self.assertIs(Bag(["a", "b", "a"]) == Bag(("b", "a", "a")), True)
        self.assertIs(Bag(["a", "b", "a"]) == Bag(["a", "b"]), False)
        self.assertIs(Bag(["a", "b"]) == Bag(["a", "b", "c"]), False)
        self.assertIs(Bag(["a", "b"]) == Bag(["a", "c"]), False)
        self.assertIs(Bag(["a"]) != Bag(["a"]), False)
        self.assertIs(Bag(["a"]) != Bag(["b"]), True)
        self.assertIs(Bag(LEGS) == Bag(LEGS[::-1]), True)

    def test_equality_with_what_is_no_bag(self):
        for value in (None, True, 0, "", "a", ["a"], ("a",), {"a": 1}, [("a", 1)], [], {}, Web(["a"])):
            self.assertIs(Bag(["a"]) == value, False)
            self.assertIs(Bag() == value, False)
            self.assertIs(Bag(["a"]) != value, True)

    def test_sum(self):
        first, second = Bag(["a", "b", "b"]), Bag(["b", "c"])
        self.same(list(first + second), [("a", 1), ("b", 3), ("c", 1)])
        self.same(list(second + first), [("a", 1), ("b", 3), ("c", 1)])
        self.same(list(first + first), [("a", 2), ("b", 4)])
        self.same([list(first), list(second)], [[("a", 1), ("b", 2)], [("b", 1), ("c", 1)]])
        self.assertIs((first + second).__class__, Bag)

    def test_difference(self):
        first, second = Bag(["a", "b", "b", "c"]), Bag(["b", "c"])
        self.same(list(first - second), [("a", 1), ("b", 1)])
        self.same(list(first - first), [])
        self.same([list(first), list(second)], [[("a", 1), ("b", 2), ("c", 1)], [("b", 1), ("c", 1)]])
        self.assertIs((first - second).__class__, Bag)

    def test_lacking_names_the_least_thing(self):
        first = Bag(["a", "b", "b", "d"])
        self.refused(Lacking, {"thing": "b", "have": 2, "wanted": 3},
                     lambda: first - Bag(["d", "d", "b", "a", "b", "b", "c"]))
        self.refused(Lacking, {"thing": "c", "have": 0, "wanted": 2}, lambda: first - Bag(["d", "d", "c", "c"]))
        self.refused(Lacking, {"thing": "d", "have": 1, "wanted": 2}, lambda: first - Bag(["d", "b", "d"]))
        self.refused(Lacking, {"thing": (0, "m", "-"), "have": 1, "wanted": 2},
                     lambda: Bag(LEGS) - Bag([(2, "m", "-"), (0, "m", "-"), (0, "m", "-")]))
        self.same(list(first), [("a", 1), ("b", 2), ("d", 1)])

    def test_within(self):
        bag = Bag(["a", "b", "b"])
        self.assertIs(bag.within(bag), True)
        self.assertIs(Bag(["b", "b"]).within(bag), True)
        self.assertIs(Bag(["b", "a"]).within(bag), True)
        self.assertIs(Bag(["b", "b", "b"]).within(bag), False)
        self.assertIs(Bag(["a", "c"]).within(bag), False)
        self.assertIs(bag.within(Bag(["a", "b"])), False)

    def test_first_unlike(self):
        bag = Bag(["a", "b", "b", "d"])
        self.assertIs(bag.first_unlike(Bag(["d", "b", "a", "b"])), None)
        self.same(bag.first_unlike(Bag(["b", "b", "a"])), ("d", 1, 0))
        self.same(bag.first_unlike(Bag(["b", "a", "a", "d"])), ("a", 1, 2))
        self.same(bag.first_unlike(Bag(["b", "a", "d"])), ("b", 2, 1))
        self.same(bag.first_unlike(Bag(["a", "b", "b", "c"])), ("c", 0, 1))
        self.same(bag.first_unlike(Bag(["a", "b", "b", "d", "e"])), ("e", 0, 1))

    def test_numbers_far_above_a_thousand(self):
        bag = doubled(Bag(["b", "a", "b"]), 100)
        many = 2 ** 100
        self.same([bag["a"], bag["b"], bag.many, bag.kinds], [many, 2 * many, 3 * many, 2])
        self.same(list(bag), [("a", many), ("b", 2 * many)])
        self.same(["a" in bag, bag.within(bag + bag), (bag + bag).within(bag)], [True, True, False])
        self.same(list(bag - doubled(Bag(["b"]), 100)), [("a", many), ("b", many)])
        self.same(bag.first_unlike(doubled(Bag(["a", "b"]), 100)), ("b", 2 * many, many))
        self.assertIs(bag == doubled(Bag(["a", "b", "b"]), 100), True)
        self.refused(Lacking, {"thing": "a", "have": many, "wanted": 2 * many}, lambda: bag - (bag + bag))

    def test_a_thousand_things(self):
        row = list(range(1000, 0, -1))
        self.same(Bag(row).things(), list(range(1, 1001)))
        self.same(Bag([3] * 2000).many, 2000)

    def test_what_is_neither_list_nor_tuple(self):
        for value in (None, True, False, 0, 3, "", "ab", {}, {"a": 1}, b"a", Bag(), Bag(["a"])):
            self.misshapen("things", Bag, value)
            self.misshapen("things", Bag, things=value)

    def test_things_may_be_passed_by_name(self):
        self.same(list(Bag(things=["a"])), [("a", 1)])

    def test_the_list_that_was_passed_is_not_kept(self):
        row = ["b", "a"]
        bag = Bag(row)
        self.same(row, ["b", "a"])
        row.append("c")
        row[0] = "z"
        self.same([list(bag), bag.things(), bag.many], [[("a", 1), ("b", 1)], ["a", "b"], 2])

    def test_the_list_that_was_returned_is_new(self):
        bag = Bag(["b", "a"])
        bag.things().append("c")
        bag.things().clear()
        self.same([bag.things(), list(bag), bag.many], [["a", "b"], [("a", 1), ("b", 1)], 2])

    def test_sums_do_not_change_with_their_parts(self):
        bag = Bag(["a"])
        total = bag + Bag()
        bag = bag + bag
        self.same([list(total), list(bag)], [[("a", 1)], [("a", 2)]])

    def test_iterations_do_not_disturb_each_other(self):
        bag = Bag(["a", "b"])
        self.same([(one, two) for one, _ in bag for two, _ in bag],
                  [("a", "a"), ("a", "b"), ("b", "a"), ("b", "b")])

    def test_against_counting(self):
        for first in itertools.product("abc", repeat=3):
            for second in itertools.product("abd", repeat=2):
                one, two = Bag(list(first)), Bag(second)
                self.same((one + two).things(), sorted(first + second))
                lacking = [thing for thing in sorted(second) if second.count(thing) > first.count(thing)]
                self.assertIs(two.within(one), not lacking)
                if lacking:
                    thing = lacking[0]
                    told = {"thing": thing, "have": first.count(thing), "wanted": second.count(thing)}
                    self.refused(Lacking, told, lambda: one - two)
                else:
                    self.same(list((one - two) + two), list(one))


if __name__ == "__main__":
    unittest.main()
