"""Distances, changes and repairs: points 86 to 88, and the interface of crossfarers/repairs.py."""

import itertools
import time
import unittest

from crossfarers.bags import Bag
from crossfarers.classes import class_count, class_worlds, rank_of
from crossfarers.deeds import done
from crossfarers.errors import NoWay, PlanGap, TooMany, UnknownTown, UnknownTraveller, UnlikeFrames
from crossfarers.repairs import changed, differing, distance, is_repair, least_repair
from crossfarers.verdicts import one_class
from crossfarers.worlds import Web, World
from tests.helpers import Case
from tests.samples import example, full_world, meeting_world, small_worlds
from tests.test_classes import listed_world

NO_CHANGES = (
    None, True, 0, "", (), {}, ("ann", 0, "m"), (("ann", 0, "m"),), {("ann", 0, "m"): 1}, [None], [0], ["ann"],
    [["ann", 0, "m"]], [("ann", 0)], [("ann", 0, "m", 0)], [("A", 0, "m")], [("-", 0, "m")], [(None, 0, "m")],
    [(["ann"], 0, "m")], [("ann", 7, "m")], [("ann", -1, "m")], [("ann", True, "m")], [("ann", False, "m")],
    [("ann", None, "m")], [("ann", 0, "A")], [("ann", 0, "")], [("ann", 0, None)], [("ann", 0, ["m"])],
    [("ann", 0, "m"), ("ann", 0, "m")], [("ann", 0, "m"), ("ann", 0, "p")], [("ann", 0, "p"), ("ann", 0, "m")],
    [("ann", 1, "m"), ("ann", 0, "m")], [("bob", 0, "m"), ("ann", 1, "m")], [("ann", 0, "m"), None],
    [(f"a{at}", day, "m") for at in range(1, 8) for day in range(7)][:43],
)


def week():
    """Return a world of six travellers with plans of seven towns."""
    return World(Web.full(["m", "p"]), {name: tuple("mpmpmpm") for name in "uvwxyz"})


def places_of(world):
    """Return the dict of each traveller and day to the place."""
    return {(name, day): world.place(name, day) for name in world.names for day in range(7)}


def plain_differing(world, other):
    """Return the changes that tell the places of the other world where they are unlike."""
    here, there = places_of(world), places_of(other)
    return [(name, day, there[name, day]) for name, day in sorted(here) if here[name, day] != there[name, day]]


class DistanceTest(Case):
    def test_examples(self):
        web = Web.full(["m", "p"])
        world = World(web, {"ann": ("m", "p", "p"), "bob": ("m",)})
        other = World(web, {"ann": ("m", "m"), "bob": ("p", "p")})
        self.same(differing(world=world, other=other), [
            ("ann", 1, "m"), ("ann", 2, "-"), ("bob", 0, "p"), ("bob", 1, "p")])
        self.same(differing(other, world), [("ann", 1, "p"), ("ann", 2, "p"), ("bob", 0, "m"), ("bob", 1, "-")])
        self.same([distance(world=world, other=other), distance(other, world), distance(world, world)], [4, 4, 0])
        self.same(differing(world, world), [])
        self.same(distance(week(), World(week().web, {name: tuple("pmpmpmp") for name in "uvwxyz"})), 42)
        self.same(distance(week(), World(week().web, {name: ("p",) for name in "uvwxyz"})), 42)

    def test_small_worlds(self):
        worlds = small_worlds(2)
        for world, other in itertools.product(worlds[::5], worlds[::3]):
            wanted = plain_differing(world, other)
            self.same(differing(world, other), wanted)
            self.same(distance(world, other), len(wanted))
            self.same(changed(world, wanted).rows, other.rows)

    def test_frames(self):
        world = meeting_world()
        fewer = World(world.web, {name: plan for name, plan in world if name != "bob"})
        elsewhere = World(Web.full(list("mpqr")), fewer.plans)
        for call in (distance, differing, least_repair, lambda one, two: is_repair(one, two, []),
                     lambda one, two: is_repair(one, two, None)):
            self.refused(UnlikeFrames, {"part": "web"}, call, world, elsewhere)
            self.refused(UnlikeFrames, {"part": "travellers"}, call, world, fewer)
        great = full_world(6)
        self.refused(UnlikeFrames, {"part": "web"}, least_repair, world, great)


class ChangedTest(Case):
    def test_plans_grow_and_shrink(self):
        world = World(Web.chain(["m", "p", "q"]), {"ann": ("m", "p", "q"), "bob": ("m",)})
        self.same(changed(world=world, changes=[("bob", 1, "p"), ("bob", 2, "q"), ("bob", 3, "q")]).plans,
                  {"ann": ("m", "p", "q"), "bob": ("m", "p", "q", "q")})
        self.same(changed(world, [("ann", 1, "-"), ("ann", 2, "-")])["ann"], ("m",))
        self.same(changed(world, [("ann", 2, "-")])["ann"], ("m", "p"))
        self.same(changed(world, [("ann", 0, "q"), ("ann", 2, "p"), ("ann", 3, "q")])["ann"], ("q", "p", "p", "q"))
        self.same(changed(world, [("ann", 6, "-"), ("bob", 0, "m"), ("bob", 1, "-")]).plans, world.plans)
        self.same(changed(world, [("bob", day, "p") for day in range(7)])["bob"], ("p",) * 7)

    def test_no_change_and_all_places(self):
        world = week()
        self.assertIs(changed(world, []) == world, True)
        told = [(name, day, "pm"[day % 2]) for name in "uvwxyz" for day in range(7)]
        self.same(len(told), 42)
        self.same(changed(world, told).plans, {name: tuple("pmpmpmp") for name in "uvwxyz"})
        self.misshapen("changes", changed, world, told + [("zz", 0, "m")])
        ended = [(name, day, "-" if day else "m") for name in "uvwxyz" for day in range(7)]
        self.same(changed(world, ended).plans, {name: ("m",) for name in "uvwxyz"})
        self.same(changed(world, ended).web.towns, ("m", "p"))

    def test_all_at_once(self):
        web = Web(["m", "p", "q"], [("m", "p"), ("p", "q")])
        world = World(web, {"ann": ("m", "p", "q")})
        self.same(changed(world, [("ann", 0, "q"), ("ann", 2, "m")])["ann"], ("q", "p", "m"))
        self.same(changed(world, [("ann", 0, "p"), ("ann", 1, "q")])["ann"], ("p", "q", "q"))

    def test_wrong_shapes(self):
        world = meeting_world()
        for changes in NO_CHANGES:
            self.misshapen("changes", changed, world, changes)

    def test_unknown_names(self):
        world = meeting_world()
        gap = ("ann", 0, "-")
        self.refused(UnknownTraveller, {"name": "zoe"}, changed, world, [gap, ("bob", 0, "m"), ("zoe", 0, "x")])
        self.refused(UnknownTown, {"town": "x"}, changed, world, [gap, ("bob", 0, "x"), ("zoe", 0, "x")])
        self.refused(UnknownTraveller, {"name": "abe"}, changed, world, [("abe", 3, "-"), ("ann", 0, "x")])
        self.refused(UnknownTown, {"town": "ann"}, changed, world, [("ann", 6, "ann")])
        self.same(changed(world, [("ann", 3, "-")])["ann"], ("m", "p", "q"))

    def test_gaps(self):
        web = Web(["m", "p", "q"], [("m", "p")])
        world = World(web, {"ann": ("m", "p", "p"), "bob": ("m", "m"), "cat": ("m",)})
        far = [("ann", 1, "q")]
        self.refused(NoWay, {"day": 0, "here": "m", "there": "q"}, changed, world, far)
        for changes, name, day in (
                ([("bob", 0, "-")], "bob", 0), ([("cat", 0, "-")], "cat", 0),
                ([("cat", 0, "-"), ("cat", 1, "-")], "cat", 0),
                ([("bob", 0, "-"), ("cat", 0, "-")], "bob", 0), ([("bob", 4, "m"), ("cat", 0, "-")], "bob", 2),
                ([("bob", 6, "m")], "bob", 2), ([("bob", 1, "-"), ("bob", 6, "m")], "bob", 1),
                ([("bob", 0, "-"), ("bob", 1, "-")], "bob", 0), ([("cat", 2, "m"), ("cat", 4, "p")], "cat", 1),
                ([("cat", 1, "m"), ("cat", 3, "q")], "cat", 2)):
            self.refused(PlanGap, {"name": name, "day": day}, changed, world, changes)
            self.refused(PlanGap, {"name": name, "day": day}, changed, world, far + changes)
        self.refused(PlanGap, {"name": "ann", "day": 1}, changed, world, [("ann", 1, "-"), ("bob", 0, "-")])
        self.refused(PlanGap, {"name": "ann", "day": 0}, changed, world, [("ann", 0, "-"), ("ann", 1, "-")])

    def test_no_way(self):
        web = Web(["m", "p", "q"], [("m", "p")])
        world = World(web, {"ann": ("m", "p", "p"), "bob": ("m", "m")})
        self.refused(NoWay, {"day": 1, "here": "p", "there": "q"}, changed, world, [("ann", 2, "q"), ("bob", 0, "q")])
        self.refused(NoWay, {"day": 0, "here": "q", "there": "m"}, changed, world, [("bob", 0, "q"), ("bob", 2, "q")])
        self.refused(NoWay, {"day": 1, "here": "m", "there": "q"}, changed, world, [("bob", 2, "q"), ("bob", 3, "m")])
        self.same(changed(world, [("bob", 0, "q"), ("bob", 1, "q")])["bob"], ("q", "q"))


class RepairTest(Case):
    def test_least_repairs_of_small_worlds(self):
        worlds = small_worlds(2)
        for world, target in itertools.product(worlds[::9], worlds[::4]):
            near = min(class_worlds(target), key=lambda one: (distance(world, one), rank_of(one)))
            wanted = plain_differing(world, near)
            self.same(least_repair(world=world, target=target), wanted)
            self.assertIs(is_repair(world=world, target=target, paper=wanted), True)
            self.assertIs(one_class(changed(world, wanted), target), True)

    def test_the_least_rank_among_the_nearest(self):
        web = Web.full(["m", "p", "q"])
        world = World(web, {"ann": ("m",), "bob": ("m",)})
        target = World(web, {"ann": ("m", "p"), "bob": ("m", "q")})
        self.same(least_repair(world, target), [("ann", 1, "p"), ("bob", 1, "q")])
        self.same(least_repair(world, done(target, ("ann", "bob", 0))), [("ann", 1, "p"), ("bob", 1, "q")])
        moved = World(web, {"ann": ("m", "q"), "bob": ("m",)})
        self.same(least_repair(moved, target), [("bob", 1, "p")])

    def test_of_one_class(self):
        world, target = example()
        self.same(least_repair(world, target), [])
        for paper in ([], [("ann", 0, "m")], differing(world, target), [("zoe", 0, "m")], [("ann", 0, "p")]):
            right = paper in ([], [("ann", 0, "m")], differing(world, target))
            self.same(is_repair(world, target, paper), right)

    def test_against_all_small_changes(self):
        web = Web.full(["m", "p"])
        world = World(web, {"ann": ("m", "p"), "bob": ("p", "m")})
        target = World(web, {"ann": ("m", "p", "m"), "bob": ("m",)})
        rows = [one.rows for one in class_worlds(target)]
        keys = [("ann", 1), ("ann", 2), ("bob", 0), ("bob", 1), ("bob", 2)]
        found = []
        for some in itertools.product(["m", "p", "-", None], repeat=len(keys)):
            paper = [(name, day, place) for (name, day), place in zip(keys, some) if place is not None]
            plans = places_of(world)
            plans.update({(name, day): place for name, day, place in paper})
            made = tuple((name, tuple(plans[name, day] for day in range(7) if plans[name, day] != "-"))
                         for name in world.names)
            gap = any(plans[name, day] == "-" and (day == 0 or plans[name, day + 1] != "-")
                      for name in world.names for day in range(6))
            right = not gap and made in rows
            self.same(is_repair(world, target, paper), right)
            if right:
                found.append(len(paper))
        self.same(min(found), len(least_repair(world, target)))
        self.assertGreater(max(found), min(found))

    def test_bent_repairs(self):
        world = meeting_world()
        target = World(world.web, {**world.plans, "eve": ("q", "p"), "cat": ("m", "m")})
        right = differing(world, target)
        self.same(right, [("cat", 1, "m"), ("eve", 1, "p")])
        self.assertIs(is_repair(world, target, right), True)
        self.assertIs(is_repair(world, target, right + [("eve", 5, "-")]), True)
        for paper in (*NO_CHANGES, [], right[:1], right[::-1], tuple(right), [list(part) for part in right],
                      right + [("zoe", 0, "m")], right + [("eve", 6, "x")], right + [("eve", 6, "q")],
                      [("ann", 0, "-")] + right, [("ann", 1, "m"), ("ann", 2, "r")] + right, right + [("eve", 2, "r")],
                      [("cat", True, "m"), ("eve", 1, "p")], target, Bag(right)):
            self.assertIs(is_repair(world, target, paper), False)

    def test_too_many_worlds(self):
        world = listed_world(True)
        self.refused(TooMany, {"what": "worlds", "number": 405}, least_repair, world, world)
        still = World(world.web, {name: ("m",) for name in world.names})
        self.refused(TooMany, {"what": "worlds", "number": 405}, least_repair, still, world)
        self.same(len(least_repair(world, still)) > 0, True)
        self.assertIs(is_repair(world, world, []), True)
        count = class_count(full_world(6))
        self.refused(TooMany, {"what": "worlds", "number": count}, least_repair, full_world(6), full_world(6))


class NothingChangesTest(Case):
    def test_what_is_passed_and_returned(self):
        world, target = meeting_world(), example()[0]
        changes = [("ann", 1, "m"), ("bob", 3, "q")]
        passed = repr([world.rows, changes])
        made = changed(world, changes)
        is_repair(world, made, changes)
        self.same(repr([world.rows, changes]), passed)
        changes.clear()
        self.same(made["bob"], ("m", "m", "q", "q"))
        differing(world, made).clear()
        self.same(differing(world, made), [("ann", 1, "m"), ("bob", 3, "q")])
        least_repair(target, target).append(0)
        self.same(least_repair(target, target), [])

    def test_in_good_time_at_the_limits(self):
        begin = time.perf_counter()
        target = listed_world(False)
        world = World(target.web, {name: ("m",) * 7 for name in target.names})
        paper = least_repair(world, target)
        self.assertIs(is_repair(world, target, paper), True)
        great = full_world(6)
        told = [(name, day, great.place(name, day)) for name in great.names for day in range(7)]
        self.assertIs(changed(same_world(great), told) == great, True)
        self.assertLess(time.perf_counter() - begin, 20)


def same_world(world):
    """Return a world of the frame in which all stay in one town."""
    return World(world.web, {name: ("h",) for name in world.names})


if __name__ == "__main__":
    unittest.main()
