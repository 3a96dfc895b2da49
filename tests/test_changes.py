"""Changes: point 21, and the interface of crossfarers/changes.py."""

import itertools
import unittest

from crossfarers.bags import Bag
from crossfarers.changes import chosen, renamed, shifted, town_joined, united
from crossfarers.errors import (
    PlanTooLong, Repeated, SameTown, TooMany, UnknownTown, UnknownTraveller, UnlikeFrames,
)
from crossfarers.worlds import Web, World
from tests.helpers import Case

NO_NAMES = (None, True, 1, "", "-", "A", "a b", "abcdefghi", ["m"], ("m",), {"m": 1}, [], (), {})


def some_world():
    """Return a world in a chain m - p - q, with the town r apart."""
    web = Web(["m", "p", "q", "r"], [("m", "p"), ("p", "q")])
    return World(web, {"ann": ("m", "p", "q"), "bob": ("q", "q"), "cat": ("r",)})


class ChangesCase(Case):
    def is_world(self, world, towns, ways, rows):
        """Check the parts of a world."""
        self.same([world.web.towns, world.web.ways, world.rows], [towns, ways, rows])
        self.assertIs(world.__class__, World)


class RenamedTest(ChangesCase):
    def test_travellers_alone(self):
        world = renamed(some_world(), travellers=[("ann", "zoe"), ("cat", "abe")])
        self.is_world(world, ("m", "p", "q", "r"), (("m", "p"), ("p", "q")),
                      (("abe", ("r",)), ("bob", ("q", "q")), ("zoe", ("m", "p", "q"))))

    def test_towns_alone(self):
        world = renamed(some_world(), towns=(("m", "z"), ("r", "b10")))
        self.is_world(world, ("b10", "p", "q", "z"), (("p", "q"), ("p", "z")),
                      (("ann", ("z", "p", "q")), ("bob", ("q", "q")), ("cat", ("b10",))))

    def test_nothing(self):
        world = some_world()
        for other in (renamed(world), renamed(world, travellers=[], towns=[]), renamed(world, towns=(), travellers=()),
                      renamed(world=world)):
            self.assertIs(other == world, True)

    def test_names_exchanged_among_themselves(self):
        world = renamed(some_world(), travellers=(("ann", "bob"), ("bob", "cat"), ("cat", "ann")),
                        towns=[("m", "q"), ("q", "m")])
        self.is_world(world, ("m", "p", "q", "r"), (("m", "p"), ("p", "q")),
                      (("ann", ("r",)), ("bob", ("q", "p", "m")), ("cat", ("m", "m"))))
        world = renamed(some_world(), towns=[("m", "p"), ("p", "m")])
        self.is_world(world, ("m", "p", "q", "r"), (("m", "p"), ("m", "q")),
                      (("ann", ("p", "m", "q")), ("bob", ("q", "q")), ("cat", ("r",))))

    def test_a_name_that_stays(self):
        world = some_world()
        self.assertIs(renamed(world, travellers=[("ann", "ann")], towns=[("m", "m"), ("p", "p")]) == world, True)

    def test_a_traveller_and_a_town_with_one_name(self):
        world = World(Web.full(["m", "p"]), {"m": ("m", "p"), "p": ("p",)})
        self.is_world(renamed(world, travellers=[("m", "z")]), ("m", "p"), (("m", "p"),),
                      (("p", ("p",)), ("z", ("m", "p"))))
        self.is_world(renamed(world, towns=[("m", "z")]), ("p", "z"), (("p", "z"),),
                      (("m", ("z", "p")), ("p", ("p",))))
        self.is_world(renamed(world, travellers=[("m", "p"), ("p", "m")]), ("m", "p"), (("m", "p"),),
                      (("m", ("p",)), ("p", ("m", "p"))))

    def test_unknown_names(self):
        world = some_world()
        self.refused(UnknownTraveller, {"name": "zoe"}, renamed, world,
                     travellers=[("ann", "bob"), ("zoe", "a"), ("abe", "b")], towns=[("x", "y")])
        self.refused(UnknownTraveller, {"name": "m"}, renamed, world, travellers=[("m", "n")])
        self.refused(UnknownTown, {"town": "x"}, renamed, world, travellers=[("ann", "bob")],
                     towns=[("m", "p"), ("x", "y"), ("a", "b")])
        self.refused(UnknownTown, {"town": "ann"}, renamed, world, towns=[("ann", "n")])

    def test_repeated_names(self):
        world = some_world()
        self.refused(Repeated, {"thing": "bob"}, renamed, world, travellers=[("ann", "bob")], towns=[("m", "p")])
        self.refused(Repeated, {"thing": "b"}, renamed, world, travellers=[("cat", "b"), ("ann", "b")])
        self.refused(Repeated, {"thing": "p"}, renamed, world, towns=[("m", "q"), ("r", "p")])
        self.refused(Repeated, {"thing": "q"}, renamed, world, travellers=[("ann", "zoe")], towns=[("m", "q")])
        self.refused(Repeated, {"thing": "a"}, renamed, world, towns=[("m", "z"), ("r", "a"), ("p", "z"), ("q", "a")])

    def test_wrong_shapes(self):
        world = some_world()
        wrong = [
            None, True, 0, "", "ab", {}, {"ann": "abe"}, [None], ["ab"], [["ann", "abe"]], (["m", "n"],), [("ann",)],
            [("ann", "abe", "b")], [("ann", "a"), ("ann", "a")], [("ann", "a"), ("bob", "b"), ("ann", "c")],
            (("x", "a"), ("x", "b")), [()], ("m", "n"),
        ]
        wrong.extend([("ann", name)] for name in NO_NAMES)
        wrong.extend([(name, "ann")] for name in NO_NAMES)
        for value in wrong:
            self.misshapen("travellers", renamed, world, travellers=value)
            self.misshapen("towns", renamed, world, towns=value)
            self.misshapen("travellers", renamed, world, travellers=value, towns=value)
            self.misshapen("towns", renamed, world, travellers=[("zoe", "a")], towns=value)

    def test_pairs_are_passed_by_name(self):
        with self.assertRaises(TypeError):
            renamed(some_world(), [("ann", "zoe")])

    def test_all_names_of_a_full_world(self):
        names = ["a", "b", "c"]
        world = World(Web.chain(names), {"a": ("a", "b"), "b": ("c",), "c": ("b", "c")})
        for images in itertools.permutations(names):
            pairs = list(zip(names, images))
            there = renamed(world, travellers=pairs, towns=tuple(pairs))
            self.same(there[images[0]], (images[0], images[1]))
            self.assertIs(there.web.joins(images[0], images[2]), False)
            again = [(new, old) for old, new in pairs]
            self.assertIs(renamed(there, travellers=again, towns=again) == world, True)


class ShiftedTest(ChangesCase):
    def test_shifting(self):
        world = some_world()
        self.assertIs(shifted(world, 0) == world, True)
        self.same(shifted(world, 1).rows, (("ann", ("m", "m", "p", "q")), ("bob", ("q", "q", "q")),
                                           ("cat", ("r", "r"))))
        self.same(shifted(world=world, days=4)["ann"], ("m", "m", "m", "m", "m", "p", "q"))
        self.assertIs(shifted(world, 4).web == world.web, True)
        self.same(shifted(World(Web(["m"]), {"ann": ("m",)}), 6)["ann"], ("m",) * 7)

    def test_too_long_plans(self):
        world = some_world()
        self.refused(PlanTooLong, {"name": "ann"}, shifted, world, 5)
        self.refused(PlanTooLong, {"name": "ann"}, shifted, world, 6)
        world = World(world.web, {"zoe": ("m", "p", "p"), "bob": ("m", "m"), "ann": ("m",)})
        self.refused(PlanTooLong, {"name": "zoe"}, shifted, world, 5)
        self.refused(PlanTooLong, {"name": "bob"}, shifted, world, 6)
        world = World(world.web, {"ann": ("m",) * 7})
        self.assertIs(shifted(world, 0) == world, True)
        self.refused(PlanTooLong, {"name": "ann"}, shifted, world, 1)

    def test_wrong_days(self):
        for value in (None, True, False, -1, 7, 10 ** 29, "1", [], [1], (), (1,), {}):
            self.misshapen("days", shifted, some_world(), value)


class TownJoinedTest(ChangesCase):
    def test_a_way_between_them_vanishes(self):
        self.is_world(town_joined(some_world(), "m", "p"), ("m", "q", "r"), (("m", "q"),),
                      (("ann", ("m", "m", "q")), ("bob", ("q", "q")), ("cat", ("r",))))
        self.is_world(town_joined(some_world(), "p", "m"), ("p", "q", "r"), (("p", "q"),),
                      (("ann", ("p", "p", "q")), ("bob", ("q", "q")), ("cat", ("r",))))

    def test_equal_ways_become_one(self):
        self.is_world(town_joined(some_world(), "q", "m"), ("p", "q", "r"), (("p", "q"),),
                      (("ann", ("q", "p", "q")), ("bob", ("q", "q")), ("cat", ("r",))))
        self.is_world(town_joined(some_world(), keep="m", gone="q"), ("m", "p", "r"), (("m", "p"),),
                      (("ann", ("m", "p", "m")), ("bob", ("m", "m")), ("cat", ("r",))))

    def test_ways_are_kept_in_order(self):
        self.is_world(town_joined(some_world(), "r", "p"), ("m", "q", "r"), (("m", "r"), ("q", "r")),
                      (("ann", ("m", "r", "q")), ("bob", ("q", "q")), ("cat", ("r",))))
        self.is_world(town_joined(some_world(), "p", "r"), ("m", "p", "q"), (("m", "p"), ("p", "q")),
                      (("ann", ("m", "p", "q")), ("bob", ("q", "q")), ("cat", ("p",))))

    def test_a_full_web(self):
        world = World(Web.full(["m", "p", "q"]), {"m": ("m", "p", "q")})
        self.is_world(town_joined(world, "q", "m"), ("p", "q"), (("p", "q"),), (("m", ("q", "p", "q")),))
        world = World(Web.full(["m", "p"]), {"p": ("m", "p")})
        self.is_world(town_joined(world, "m", "p"), ("m",), (), (("p", ("m", "m")),))

    def test_refused(self):
        world = some_world()
        self.refused(UnknownTown, {"town": "x"}, town_joined, world, "x", "y")
        self.refused(UnknownTown, {"town": "y"}, town_joined, world, "m", "y")
        self.refused(UnknownTown, {"town": "a"}, town_joined, world, "m", "a")
        self.refused(UnknownTown, {"town": "x"}, town_joined, world, "x", "x")
        self.refused(SameTown, {"town": "m"}, town_joined, world, "m", "m")
        for value in NO_NAMES:
            self.misshapen("keep", town_joined, world, value, value)
            self.misshapen("keep", town_joined, world, value, "m")
            self.misshapen("gone", town_joined, world, "x", value)


class ChosenTest(ChangesCase):
    def test_choosing(self):
        world = some_world()
        self.is_world(chosen(world, ["cat", "ann"]), ("m", "p", "q", "r"), (("m", "p"), ("p", "q")),
                      (("ann", ("m", "p", "q")), ("cat", ("r",))))
        self.same(chosen(world=world, names=["bob"]).rows, (("bob", ("q", "q")),))
        self.assertIs(chosen(world, ["cat", "bob", "ann"]) == world, True)

    def test_six_travellers(self):
        names = ["a", "b", "c", "d", "e", "f"]
        world = World(Web(["m"]), {name: ("m",) for name in names})
        self.assertIs(chosen(world, names[::-1]) == world, True)
        self.misshapen("names", chosen, world, names + ["g"])

    def test_refused(self):
        world = some_world()
        self.refused(UnknownTraveller, {"name": "zoe"}, chosen, world, ["ann", "zoe", "abe"])
        self.refused(UnknownTraveller, {"name": "m"}, chosen, world, ["m"])
        for value in (None, True, 0, "", "ann", [], (), ("ann",), {}, {"ann": 1}, ["ann", "ann"], ["x", "ann", "x"]):
            self.misshapen("names", chosen, world, value)
        for value in NO_NAMES:
            self.misshapen("names", chosen, world, [value])
            self.misshapen("names", chosen, world, ["zoe", value])


class UnitedTest(ChangesCase):
    def test_uniting(self):
        world = some_world()
        other = World(Web(("r", "q", "p", "m"), (("q", "p"), ("p", "m"))), {"zoe": ("m", "m"), "abe": ("q", "p")})
        rows = (("abe", ("q", "p")), ("ann", ("m", "p", "q")), ("bob", ("q", "q")), ("cat", ("r",)),
                ("zoe", ("m", "m")))
        for made in (united(world, other), united(other, world), united(world=world, other=other)):
            self.is_world(made, ("m", "p", "q", "r"), (("m", "p"), ("p", "q")), rows)

    def test_unlike_webs(self):
        world = some_world()
        for web in (Web(world.web.towns), Web.full(world.web.towns), Web([*world.web.towns, "s"], world.web.ways)):
            self.refused(UnlikeFrames, {"part": "web"}, united, world, World(web, {"zoe": ("m",)}))
            self.refused(UnlikeFrames, {"part": "web"}, united, world, World(web, {"ann": ("m",)}))

    def test_common_travellers(self):
        world = some_world()
        other = World(world.web, {name: ("m",) for name in ("dan", "cat", "bob", "abe", "eve", "fay")})
        self.refused(Repeated, {"thing": "bob"}, united, world, other)
        self.refused(Repeated, {"thing": "bob"}, united, other, world)
        self.refused(Repeated, {"thing": "ann"}, united, world, world)

    def test_too_many_travellers(self):
        world = some_world()
        others = [World(world.web, {name: ("m",) for name in "defghi"[:many]}) for many in range(3, 7)]
        self.same(united(world, others[0]).names, ("ann", "bob", "cat", "d", "e", "f"))
        for many, other in zip((7, 8, 9), others[1:]):
            self.refused(TooMany, {"what": "travellers", "number": many}, united, world, other)
            self.refused(TooMany, {"what": "travellers", "number": many}, united, other, world)


class KeptTest(ChangesCase):
    def test_what_is_passed_stays_as_it_was(self):
        world, other = some_world(), World(some_world().web, {"zoe": ("m",)})
        rows, ways = world.rows, world.web.ways
        travellers, towns, names = [("ann", "abe")], [("m", "z")], ["cat", "ann"]
        made = [renamed(world, travellers=travellers, towns=towns), shifted(world, 2), town_joined(world, "m", "p"),
                chosen(world, names), united(world, other)]
        self.same([travellers, towns, names], [[("ann", "abe")], [("m", "z")], ["cat", "ann"]])
        self.same([world.rows, world.web.ways, other.rows], [rows, ways, (("zoe", ("m",)),)])
        told = [one.rows for one in made]
        travellers.clear()
        towns.clear()
        names.clear()
        for one in made:
            one.plans.clear()
        self.same([one.rows for one in made], told)

    def test_bags_are_not_worlds(self):
        self.assertIs(shifted(some_world(), 0) == Bag(), False)


if __name__ == "__main__":
    unittest.main()
