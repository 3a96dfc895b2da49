"""Ledgers: points 22 to 26, and the interface of crossfarers/ledgers.py."""

import itertools
import unittest

from crossfarers.bags import Bag
from crossfarers.errors import NoWay, Unbalanced, UnknownTown
from crossfarers.ledgers import (
    crossings_of, first_unbalanced, ledger_of, legs_of, plan_of, sizes, standing, starts_of, users, world_of,
)
from crossfarers.worlds import Web, World
from tests.helpers import Case

WRONG_PLANS = (None, True, 0, "m", [], (), ["m"], ("m",) * 8, ("m", "-"), ("-",), ("m", None), ("m", ["p"]), {})
WRONG_LEGS = (
    None, True, 0, "m", [], (), {}, (0, "m"), [0, "m", "p"], (0, "m", "p", "q"), (6, "m", "p"), (7, "m", "-"),
    (-1, "m", "-"), (True, "m", "p"), (0, "-", "m"), (0, "m", ""), (0, "m", None), (0, ["m"], "p"), (0, "m", ["p"]),
)
WRONG_CROSSINGS = (
    None, True, 0, "m", [], (), {}, (0,), [0, "m"], (0, "m", "p"), (7, "m"), (-1, "m"), (True, "m"), (0, "-"),
    (0, ""), (0, None), (0, ["m"]),
)
WRONG_STARTS = (
    None, True, 0, "ann", [], (), {}, {"ann": "m"}, (("ann", "m"),), [["ann", "m"]], [("ann",)], [("ann", "m", "p")],
    [None], ["am"], [()], [("ann", "-")], [("ann", None)], [("ann", ["m"])], [(["ann"], "m")], [("A", "m")],
    [("ann", "m"), ("ann", "m")], [("ann", "m"), ("bob", "m"), ("ann", "p")], [(1, "m")], [(True, "m")],
    [("a", "m"), ("b", "m"), ("c", "m"), ("d", "m"), ("e", "m"), ("f", "m"), ("g", "m")],
)
NO_LEGS = (
    None, [], [(0, "m", "-")], {(0, "m", "-"): 1},
    Bag(["m"]), Bag([1]), Bag([()]), Bag([(0, "m")]), Bag([(0, "m", "p"), (6, "m", "p")]), Bag([(0, "-", "m")]),
    Bag([(7, "m", "-")]), Bag([(-1, "m", "-"), (0, "m", "-")]), Bag([(0, "m", "p", "q")]), Bag([(0, "m", "")]),
    Bag([("ann", "m", 0)]), Bag([((0, "m"), "p")]),
)


def some_world():
    """Return a world in which travellers meet, settle together and stay."""
    web = Web(["m", "p", "q", "r"], [("m", "p"), ("p", "q"), ("m", "q")])
    plans = {"ann": ("m", "p", "q", "q"), "bob": ("m", "m", "q"), "cat": ("m", "p"), "dan": ("q", "p", "q"),
             "eve": ("q",)}
    return World(web, plans)


def small_worlds(many):
    """Return all worlds of this many travellers in the chain m - p - q with plans of at most three towns."""
    web = Web.chain(["m", "p", "q"])
    rows = [plan for last in range(3) for plan in itertools.product("mpq", repeat=last + 1)
            if all(web.joins(*step) for step in zip(plan, plan[1:]))]
    names = ["ann", "bob", "cat"][:many]
    return [World(web, dict(zip(names, plans))) for plans in itertools.product(rows, repeat=many)]


def counted(starts, legs):
    """Return the least crossing that does not balance, by counting at each one."""
    for day in range(7):
        for town in "mpqrxyz":
            leaving = sum(number for leg, number in legs if leg[:2] == (day, town))
            arriving = sum(number for leg, number in legs if (leg[0] + 1, leg[2]) == (day, town))
            if day == 0:
                arriving = sum(1 for _, start in starts if start == town)
            if arriving != leaving:
                return ((day, town), arriving, leaving)
    return None


class LegsTest(Case):
    def test_legs_of_a_plan(self):
        self.same(legs_of(("m",)), [(0, "m", "-")])
        self.same(legs_of(("m", "p", "p")), [(0, "m", "p"), (1, "p", "p"), (2, "p", "-")])
        self.same(legs_of(plan=("m",) * 7), [(day, "m", "m") for day in range(6)] + [(6, "m", "-")])
        for plan in WRONG_PLANS:
            self.misshapen("plan", legs_of, plan)

    def test_plan_of_legs(self):
        for plan in (("m",), ("m", "p"), ("m", "m", "m"), ("m", "p", "q", "m", "p", "q", "m")):
            self.same(plan_of(legs_of(plan)), plan)
            self.same(plan_of(legs=legs_of(plan)), plan)

    def test_legs_of_no_plan(self):
        right = legs_of(("m", "p", "q"))
        wrong = [
            None, True, 0, "", (), {}, [], tuple(right), right[:-1], right[1:], right[::-1], right + right[-1:],
            [right[0], right[2]], [(0, "m", "p"), (1, "q", "-")], [(1, "m", "-")], [(0, "m", "p")],
            [(0, "m", "-"), (1, "m", "-")], [(0, "m", "p"), (0, "p", "-")], [(0, "m", "p"), (2, "p", "-")],
            [list(leg) for leg in right], [(False, "m", "-")], [(0, "m", "p"), (True, "p", "-")], [(0, "m", None)],
            Bag(right), legs_of(("m",) * 7) + [(7, "m", "-")], legs_of(("m",) * 7)[:-1] + [(6, "m", "m")],
        ]
        for value in wrong:
            self.misshapen("legs", plan_of, value)
        for leg in WRONG_LEGS:
            self.misshapen("legs", plan_of, [leg])
            self.misshapen("legs", plan_of, [(0, "m", "p"), leg])

    def test_ledger_and_starts(self):
        world = some_world()
        self.same(list(ledger_of(world)), [
            ((0, "m", "m"), 1), ((0, "m", "p"), 2), ((0, "q", "-"), 1), ((0, "q", "p"), 1), ((1, "m", "q"), 1),
            ((1, "p", "-"), 1), ((1, "p", "q"), 2), ((2, "q", "-"), 2), ((2, "q", "q"), 1), ((3, "q", "-"), 1)])
        self.assertIs(ledger_of(world=world).__class__, Bag)
        self.same(starts_of(world), [("ann", "m"), ("bob", "m"), ("cat", "m"), ("dan", "q"), ("eve", "q")])
        self.same(starts_of(world=World(Web(["m"]), {"bob": ("m",), "ann": ("m",)})), [("ann", "m"), ("bob", "m")])
        for one in small_worlds(2):
            legs = [leg for name in one.names for leg in legs_of(one[name])]
            self.same(ledger_of(one).things(), sorted(legs))

    def test_standing(self):
        world = some_world()
        self.same(standing(world, (0, "m")), ["ann", "bob", "cat"])
        self.same(standing(world, (1, "p")), ["ann", "cat", "dan"])
        self.same(standing(world, (2, "q")), ["ann", "bob", "dan"])
        self.same(standing(world, (3, "q")), ["ann"])
        self.same([standing(world, (3, "m")), standing(world, (0, "r")), standing(world, (6, "q"))], [[], [], []])
        self.same(standing(world=world, crossing=(0, "q")), ["dan", "eve"])
        self.refused(UnknownTown, {"town": "x"}, standing, world, (0, "x"))
        self.refused(UnknownTown, {"town": "ann"}, standing, world, (6, "ann"))
        for crossing in WRONG_CROSSINGS:
            self.misshapen("crossing", standing, world, crossing)

    def test_users(self):
        world = some_world()
        self.same(users(world, (0, "m", "p")), ["ann", "cat"])
        self.same(users(world, (2, "q", "-")), ["bob", "dan"])
        self.same(users(world, (0, "m", "m")), ["bob"])
        self.same(users(world, (1, "p", "-")), ["cat"])
        self.same([users(world, (0, "p", "m")), users(world, (0, "m", "r")), users(world, (6, "r", "-"))], [[], [], []])
        self.same(users(world=world, leg=(0, "q", "-")), ["eve"])
        self.refused(UnknownTown, {"town": "x"}, users, world, (0, "x", "y"))
        self.refused(UnknownTown, {"town": "y"}, users, world, (0, "m", "y"))
        self.refused(UnknownTown, {"town": "a"}, users, world, (0, "m", "a"))
        self.refused(UnknownTown, {"town": "x"}, users, world, (0, "x", "-"))
        for leg in WRONG_LEGS:
            self.misshapen("leg", users, world, leg)

    def test_crossings(self):
        self.same(crossings_of(some_world()),
                  [(0, "m"), (0, "q"), (1, "m"), (1, "p"), (2, "q"), (3, "q")])
        self.same(crossings_of(world=World(Web(["m", "p"]), {"ann": ("p",)})), [(0, "p")])
        for world in small_worlds(2):
            wanted = [(day, town) for day in range(7) for town in world.web if standing(world, (day, town))]
            self.same(crossings_of(world), wanted)

    def test_sizes(self):
        world = some_world()
        self.same(sizes(ledger_of(world)),
                  [((0, "m"), 3), ((0, "q"), 2), ((1, "m"), 1), ((1, "p"), 3), ((2, "q"), 3), ((3, "q"), 1)])
        self.same([sizes(Bag()), sizes(legs=Bag([(5, "m", "p")]))], [[], [((5, "m"), 1)]])
        self.same(sizes(ledger_of(world) - Bag([(0, "q", "-"), (0, "q", "p")]))[1], ((1, "m"), 1))
        for legs in NO_LEGS:
            self.misshapen("legs", sizes, legs)
        many = ledger_of(world)
        for _ in range(50):
            many = many + many
        self.same(sizes(many)[0], ((0, "m"), 3 * 2 ** 50))
        for one in small_worlds(2):
            wanted = [(crossing, len(standing(one, crossing))) for crossing in crossings_of(one)]
            self.same(sizes(ledger_of(one)), wanted)


class BalanceTest(Case):
    def test_a_world_balances(self):
        for world in [some_world(), *small_worlds(1), *small_worlds(2)]:
            self.assertIs(first_unbalanced(starts_of(world), ledger_of(world)), None)
        world = some_world()
        self.assertIs(first_unbalanced(starts=starts_of(world)[::-1], legs=ledger_of(world)), None)

    def test_the_empty_bag(self):
        self.same(first_unbalanced([("ann", "m")], Bag()), ((0, "m"), 1, 0))
        self.same(first_unbalanced([("ann", "p"), ("bob", "m"), ("cat", "m")], Bag()), ((0, "m"), 2, 0))
        self.refused(Unbalanced, {"crossing": (0, "m"), "arriving": 1, "leaving": 0},
                     world_of, Web(["m"]), [("ann", "m")], Bag())

    def test_the_least_crossing(self):
        starts = [("ann", "m"), ("bob", "p")]
        self.same(first_unbalanced(starts, Bag([(0, "m", "-")])), ((0, "p"), 1, 0))
        self.same(first_unbalanced(starts, Bag([(0, "m", "-"), (0, "p", "-"), (0, "q", "-")])), ((0, "q"), 0, 1))
        self.same(first_unbalanced(starts, Bag([(0, "m", "p"), (0, "p", "p"), (1, "p", "-")])), ((1, "p"), 2, 1))
        self.same(first_unbalanced(starts, Bag([(0, "m", "p"), (0, "p", "m")])), ((1, "m"), 1, 0))
        self.same(first_unbalanced(starts, Bag([(0, "m", "-"), (0, "p", "-"), (6, "z", "-")])), ((6, "z"), 0, 1))
        self.same(first_unbalanced(starts, Bag([(0, "m", "-"), (0, "p", "-"), (5, "z", "a")])), ((5, "z"), 0, 1))
        self.same(first_unbalanced(starts, Bag([(0, "a", "m"), (0, "m", "-"), (0, "p", "-")])), ((0, "a"), 0, 1))

    def test_end_legs_lead_nowhere(self):
        self.assertIs(first_unbalanced([("ann", "m")], Bag([(0, "m", "-")])), None)
        self.assertIs(first_unbalanced([("ann", "m")], Bag(legs_of(("m",) * 7))), None)

    def test_numbers_far_above_a_thousand(self):
        many = Bag([(0, "m", "-")])
        for _ in range(40):
            many = many + many
        self.same(first_unbalanced([("ann", "m")], many), ((0, "m"), 1, 2 ** 40))

    def test_by_counting(self):
        legs = [(0, "m", "p"), (0, "p", "p"), (1, "p", "m"), (1, "p", "-"), (2, "m", "-")]
        starts = [("bob", "p"), ("ann", "m")]
        for numbers in itertools.product(range(3), repeat=len(legs)):
            bag = Bag([leg for leg, number in zip(legs, numbers) for _ in range(number)])
            self.same(first_unbalanced(starts, bag), counted(starts, bag))

    def test_wrong_shapes(self):
        for starts in WRONG_STARTS:
            self.misshapen("starts", first_unbalanced, starts, Bag())
            self.misshapen("starts", first_unbalanced, starts, Bag(["m"]))
            self.misshapen("starts", world_of, Web(["m"]), starts, Bag(["m"]))
        for legs in NO_LEGS:
            self.misshapen("legs", first_unbalanced, [("ann", "m")], legs)
            self.misshapen("legs", world_of, Web(["m"]), [("ann", "x")], legs)

    def test_one_to_six_starts(self):
        for many in range(1, 7):
            starts = [(name, "m") for name in "abcdef"[:many]]
            self.same(first_unbalanced(starts, Bag()), ((0, "m"), many, 0))


class FirstWorldTest(Case):
    def test_settling_goes_first(self):
        web = Web.full(["a", "m", "p"])
        starts = [("cat", "m"), ("ann", "m"), ("dan", "m"), ("bob", "m")]
        legs = Bag([(0, "m", "p"), (0, "m", "a"), (0, "m", "-"), (0, "m", "a"), (1, "a", "p"), (1, "a", "-"),
                    (1, "p", "a"), (2, "a", "-"), (2, "p", "-")])
        self.same(world_of(web, starts, legs).rows,
                  (("ann", ("m",)), ("bob", ("m", "a")), ("cat", ("m", "a", "p")), ("dan", ("m", "p", "a"))))
        self.same(world_of(web=web, starts=starts, legs=legs).web.towns, ("a", "m", "p"))

    def test_travellers_go_in_order_at_each_crossing(self):
        web = Web.full(["m", "p", "q"])
        starts = [("zoe", "m"), ("abe", "q")]
        legs = Bag([(0, "m", "p"), (0, "q", "p"), (1, "p", "m"), (1, "p", "q"), (2, "m", "-"), (2, "q", "-")])
        self.same(world_of(web, starts, legs).rows, (("abe", ("q", "p", "m")), ("zoe", ("m", "p", "q"))))

    def test_seven_days(self):
        plans = {"ann": ("m",) * 7, "bob": ("m", "p") * 3 + ("m",)}
        world = World(Web.full(["m", "p"]), plans)
        made = world_of(world.web, starts_of(world), ledger_of(world))
        self.assertIs(ledger_of(made) == ledger_of(world), True)
        self.same([made.last_day, made["ann"]], [6, ("m",) * 7])

    def test_each_first_world(self):
        for world in [some_world(), *small_worlds(1), *small_worlds(2), *small_worlds(3)[::7]]:
            made = world_of(world.web, starts_of(world)[::-1], ledger_of(world))
            self.assertIs(made.web == world.web, True)
            self.same(starts_of(made), starts_of(world))
            self.assertIs(ledger_of(made) == ledger_of(world), True)
            for day, town in crossings_of(made):
                taken = [legs_of(made[name])[day] for name in standing(made, (day, town))]
                self.same(taken, sorted(taken))

    def test_unknown_towns(self):
        web = Web(["m", "p"])
        starts = [("dan", "m"), ("cat", "z"), ("ann", "x")]
        self.refused(UnknownTown, {"town": "z"}, world_of, web, starts, Bag([(0, "y", "-")]))
        starts = [("ann", "m")]
        self.refused(UnknownTown, {"town": "z"}, world_of, web, starts,
                     Bag([(1, "a", "b"), (0, "p", "z"), (0, "x", "-"), (0, "m", "p")]))
        self.refused(UnknownTown, {"town": "x"}, world_of, web, starts, Bag([(0, "x", "a"), (0, "m", "p")]))
        self.refused(UnknownTown, {"town": "x"}, world_of, web, starts, Bag([(6, "x", "-")]))

    def test_no_way(self):
        web = Web(["m", "p", "q"], [("p", "q")])
        starts = [("ann", "m")]
        self.refused(NoWay, {"day": 0, "here": "m", "there": "q"}, world_of, web, starts,
                     Bag([(1, "m", "p"), (0, "q", "p"), (0, "q", "m"), (0, "m", "q"), (0, "m", "-"), (0, "m", "m")]))
        self.refused(UnknownTown, {"town": "x"}, world_of, web, starts, Bag([(0, "m", "p"), (1, "x", "x")]))
        self.refused(NoWay, {"day": 5, "here": "p", "there": "m"}, world_of, web, starts, Bag([(5, "p", "m")]))

    def test_unbalanced(self):
        web = Web.full(["m", "p"])
        starts = [("bob", "p"), ("ann", "m")]
        self.refused(Unbalanced, {"crossing": (1, "p"), "arriving": 2, "leaving": 1}, world_of, web, starts,
                     Bag([(0, "m", "p"), (0, "p", "p"), (1, "p", "-")]))
        self.refused(Unbalanced, {"crossing": (0, "p"), "arriving": 1, "leaving": 0}, world_of, web, starts,
                     Bag([(0, "m", "-")]))

    def test_what_is_passed_and_returned(self):
        world = some_world()
        starts, legs = starts_of(world)[::-1], ledger_of(world)
        kept, things, made = list(starts), legs.things(), world_of(world.web, starts, legs)
        self.same([starts, legs.things()], [kept, things])
        rows = made.rows
        starts.clear()
        for returned in (starts_of(world), crossings_of(world), sizes(legs), standing(world, (0, "m")),
                         users(world, (0, "m", "p")), legs_of(("m", "p"))):
            returned.clear()
        made.plans.clear()
        self.same(made.rows, rows)
        self.same([starts_of(world), legs_of(("m", "p"))], [kept[::-1], [(0, "m", "p"), (1, "p", "-")]])
        self.same([standing(world, (0, "m")), users(world, (0, "m", "p")), sizes(legs)[0], crossings_of(world)[0]],
                  [["ann", "bob", "cat"], ["ann", "cat"], ((0, "m"), 3), (0, "m")])
        row = legs_of(("m", "p"))
        plan_of(row)
        self.same(row, [(0, "m", "p"), (1, "p", "-")])


if __name__ == "__main__":
    unittest.main()
