"""Worlds: points 3, 5, 8 and 16 to 18, and the interface of crossfarers/worlds.py."""

import unittest

from crossfarers.bags import Bag
from crossfarers.errors import NoWay, PlanOver, UnknownTown, UnknownTraveller, UnlikeFrames
from crossfarers.worlds import Web, World, check_frames
from tests.helpers import Case

NO_NAMES = (None, True, 1, "", "-", "A", "a b", "abcdefghi", ["ann"], ("ann",), {"ann": 1}, [], (), {})
NO_DAYS = (None, True, False, -1, 7, "0", "m", [0], (0,), {}, [], ())
NO_PLANS = (
    None, True, 0, "m", [], (), ["m"], ("m",) * 8, ("m", "-"), ("-",), ("m", None), ("m", 1), ("m", ["p"]), {},
    ("m", ("p",)), ("abcdefghi",), {"m": 1}, [("m",)],
)
SEVEN = ["ann", "bob", "cat", "dan", "eve", "fay", "gus"]


def some_world():
    """Return a world in a chain m - p - q whose travellers were passed out of order."""
    web = Web.chain(["m", "p", "q"])
    return World(web, {"cat": ("q",), "ann": ("m", "p", "q", "q"), "bob": ("m", "m", "p")})


class WorldsTest(Case):
    def test_properties(self):
        world = some_world()
        self.assertIs(world.web == Web.chain(["m", "p", "q"]), True)
        self.same(world.names, ("ann", "bob", "cat"))
        self.same(world.plans, {"ann": ("m", "p", "q", "q"), "bob": ("m", "m", "p"), "cat": ("q",)})
        self.same(world.rows, (("ann", ("m", "p", "q", "q")), ("bob", ("m", "m", "p")), ("cat", ("q",))))
        self.same(list(world), list(world.rows))
        self.same(world.last_day, 3)

    def test_last_day(self):
        web = Web(["m"])
        for many in range(1, 8):
            self.same(World(web, {"ann": ("m",) * many, "bob": ("m",)}).last_day, many - 1)
            self.same(World(web, {"ann": ("m",), "bob": ("m",) * many}).last_day, many - 1)

    def test_plan_of_a_traveller(self):
        world = some_world()
        self.same([world["ann"], world["bob"], world["cat"]], [("m", "p", "q", "q"), ("m", "m", "p"), ("q",)])

    def test_place(self):
        world = some_world()
        self.same([world.place("ann", day) for day in range(7)], ["m", "p", "q", "q", "-", "-", "-"])
        self.same([world.place("bob", day) for day in range(7)], ["m", "m", "p", "-", "-", "-", "-"])
        self.same([world.place("cat", day) for day in range(7)], ["q", "-", "-", "-", "-", "-", "-"])
        self.same(World(Web(["m"]), {"ann": ("m",) * 7}).place(name="ann", day=6), "m")

    def test_begin_and_last(self):
        world = some_world()
        self.same([world.begin(name) for name in world.names], ["m", "m", "q"])
        self.same([world.last(name) for name in world.names], [3, 2, 0])
        self.same([world.begin(name="cat"), world.last(name="cat")], ["q", 0])

    def test_rest(self):
        world = some_world()
        self.same([world.rest("ann", day) for day in range(4)], [("p", "q", "q"), ("q", "q"), ("q",), ()])
        self.same([world.rest("cat", 0), world.rest(name="bob", day=1)], [(), ("p",)])
        for name, last in (("ann", 3), ("bob", 2), ("cat", 0)):
            for day in range(last + 1, 7):
                self.refused(PlanOver, {"name": name, "day": day}, world.rest, name, day)

    def test_unknown_travellers(self):
        world = some_world()
        told = {"name": "m"}
        self.refused(UnknownTraveller, told, lambda: world["m"])
        self.refused(UnknownTraveller, told, world.place, "m", 0)
        self.refused(UnknownTraveller, told, world.begin, "m")
        self.refused(UnknownTraveller, told, world.last, "m")
        self.refused(UnknownTraveller, told, world.rest, "m", 6)

    def test_wrong_names_and_days(self):
        world = some_world()
        for value in NO_NAMES:
            self.misshapen("name", lambda: world[value])
            self.misshapen("name", world.place, value, None)
            self.misshapen("name", world.begin, value)
            self.misshapen("name", world.last, value)
            self.misshapen("name", world.rest, value, 7)
        for value in NO_DAYS:
            self.misshapen("day", world.place, "ann", value)
            self.misshapen("day", world.place, "x", value)
            self.misshapen("day", world.rest, "ann", value)
            self.misshapen("day", world.rest, "x", value)

    def test_in(self):
        world = some_world()
        self.same(["ann" in world, "cat" in world, "m" in world, "an" in world], [True, True, False, False])
        for value in (*NO_NAMES, ("ann", ("m", "p", "q", "q")), world, world.web, Bag(), [["ann"]], {"ann": ("m",)}):
            self.assertIs(value in world, False)

    def test_a_traveller_and_a_town_with_one_name(self):
        world = World(Web.full(["m", "p"]), {"m": ("p", "m")})
        self.same([world.begin("m"), world.place("m", 1), "m" in world, "p" in world], ["p", "m", True, False])

    def test_wrong_plans(self):
        web = Web(["m", "p"])
        for value in (None, True, 0, "ann", [], (), {}, ["ann"], [("ann", ("m",))], (("ann", ("m",)),)):
            self.misshapen("plans", World, web, value)
        for name in (None, True, 1, "", "-", "A", "abcdefghi", ("ann",), ()):
            self.misshapen("plans", World, web, {name: ("m",)})
            self.misshapen("plans", World, web, {"ann": ("x",), name: ("m",)})
        for plan in NO_PLANS:
            self.misshapen("plans", World, web, {"ann": plan})
            self.misshapen("plans", World, web, {"ann": ("x",), "bob": plan})
            self.misshapen("plans", World, web, plans={"bob": plan, "ann": ("m", "p")})

    def test_one_to_six_travellers(self):
        web = Web(["m"])
        for many in range(1, 7):
            self.same(World(web, {name: ("m",) for name in SEVEN[:many]}).names, tuple(SEVEN[:many]))
        self.misshapen("plans", World, web, {name: ("m",) for name in SEVEN})
        self.misshapen("plans", World, web, {name: ("x",) for name in SEVEN})

    def test_unknown_towns(self):
        web = Web.full(["m", "p"])
        self.refused(UnknownTown, {"town": "z"}, World, web, {"ann": ("m", "z", "x")})
        self.refused(UnknownTown, {"town": "x"}, World, web, {"ann": ("m", "m", "x", "m", "z")})
        self.refused(UnknownTown, {"town": "z"}, World, web, {"bob": ("x",), "ann": ("z",)})

    def test_no_way(self):
        web = Web.chain(["m", "p", "q"])
        self.refused(NoWay, {"day": 0, "here": "m", "there": "q"}, World, web, {"ann": ("m", "q", "m")})
        self.refused(NoWay, {"day": 2, "here": "q", "there": "m"}, World, web, {"ann": ("q", "q", "q", "m", "q")})
        self.refused(NoWay, {"day": 5, "here": "q", "there": "m"}, World, web, {"ann": ("q",) * 6 + ("m",)})
        self.refused(NoWay, {"day": 1, "here": "q", "there": "m"}, World, web,
                     {"bob": ("m", "q"), "ann": ("p", "q", "m")})

    def test_errors_go_by_travellers_and_then_by_kind(self):
        web = Web.chain(["m", "p", "q"])
        self.refused(UnknownTown, {"town": "x"}, World, web, {"ann": ("m", "q", "m", "x")})
        self.refused(NoWay, {"day": 0, "here": "m", "there": "q"}, World, web, {"bob": ("x",), "ann": ("m", "q")})
        self.refused(UnknownTown, {"town": "x"}, World, web, {"bob": ("m", "q"), "ann": ("m", "x")})

    def test_staying_is_allowed_everywhere(self):
        self.same(World(Web(["m"]), {"ann": ("m",) * 7})["ann"], ("m",) * 7)

    def test_equality(self):
        world = some_world()
        plans = world.plans
        turned = {name: plans[name] for name in reversed(plans)}
        self.assertIs(world == World(Web(("q", "p", "m"), (("q", "p"), ("p", "m"))), turned), True)
        self.assertIs(world != World(Web(("q", "p", "m"), (("q", "p"), ("p", "m"))), turned), False)
        self.assertIs(world == World(Web.full(["m", "p", "q"]), plans), False)
        self.assertIs(world == World(world.web, {**plans, "cat": ("q", "q")}), False)
        self.assertIs(world == World(world.web, {**plans, "dan": ("q",)}), False)
        self.assertIs(World(world.web, {"ann": ("m",)}) == World(world.web, {"bob": ("m",)}), False)
        self.assertIs(World(world.web, {"ann": ("m",)}) != World(world.web, {"bob": ("m",)}), True)

    def test_equality_with_what_is_no_world(self):
        world = some_world()
        for value in (None, True, 0, "ann", world.plans, world.rows, list(world.rows), world.web, Bag(), [world]):
            self.assertIs(world == value, False)
            self.assertIs(world != value, True)

    def test_the_dict_that_was_passed_is_not_kept_or_changed(self):
        plans = {"bob": ("m",), "ann": ("m", "m")}
        world = World(Web(["m"]), plans)
        self.same(plans, {"bob": ("m",), "ann": ("m", "m")})
        plans["bob"] = ("m", "m", "m")
        del plans["ann"]
        plans["cat"] = ("m",)
        self.same([world.plans, world.names, world["bob"], "cat" in world],
                  [{"ann": ("m", "m"), "bob": ("m",)}, ("ann", "bob"), ("m",), False])

    def test_the_dict_that_was_returned_is_new(self):
        world = World(Web(["m"]), {"bob": ("m",), "ann": ("m", "m")})
        world.plans["bob"] = ("x",)
        world.plans.clear()
        returned = world.plans
        returned["cat"] = ("m",)
        self.same([world.plans, world.rows, world.names],
                  [{"ann": ("m", "m"), "bob": ("m",)}, (("ann", ("m", "m")), ("bob", ("m",))), ("ann", "bob")])


class FramesTest(Case):
    def test_one_frame(self):
        world = some_world()
        other = World(Web(["q", "p", "m"], [("q", "p"), ("p", "m")]), {"ann": ("q",), "bob": ("q",), "cat": ("p",)})
        self.assertIs(check_frames(world, other), None)
        self.assertIs(check_frames(other, world), None)
        self.assertIs(check_frames(world, world), None)
        self.assertIs(check_frames(world=world, other=other), None)

    def test_unlike_frames(self):
        world = some_world()
        full = Web.full(["m", "p", "q"])
        wider = Web(["m", "p", "q", "r"], world.web.ways)
        fewer = {"ann": ("m",), "bob": ("m",)}
        unlike = {"ann": ("m",), "bob": ("m",), "dan": ("m",)}
        for web in (full, wider):
            for plans in (world.plans, fewer, unlike):
                self.refused(UnlikeFrames, {"part": "web"}, check_frames, world, World(web, plans))
                self.refused(UnlikeFrames, {"part": "web"}, check_frames, World(web, plans), world)
        for plans in (fewer, unlike, {**world.plans, "dan": ("m",)}):
            other = World(world.web, plans)
            self.refused(UnlikeFrames, {"part": "travellers"}, check_frames, world, other)
            self.refused(UnlikeFrames, {"part": "travellers"}, check_frames, other, world)


if __name__ == "__main__":
    unittest.main()
