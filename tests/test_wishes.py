"""Wishes and sightings: points 56 to 59, and the interface of crossfarers/wishes.py."""

import itertools
import unittest

from crossfarers.bags import Bag
from crossfarers.classes import class_count, class_worlds
from crossfarers.errors import TooMany, UnknownTown, UnknownTraveller
from crossfarers.ledgers import ledger_of, legs_of
from crossfarers.verdicts import one_class
from crossfarers.wishes import grant, is_grant, meets, most_wishes, overbooked, world_met
from crossfarers.worlds import Web, World
from tests.helpers import Case
from tests.samples import NO_NAMES, NO_NUMBERS, example, full_world, meeting_world, pacing_world

NO_WISHES = (
    None, True, 0, "", "ann", [], (), [("ann", ("m",))], {"ann": ["m"]}, {"ann": "m"}, {"ann": ()}, {"ann": ("-",)},
    {"ann": ("m",) * 8}, {"ann": None}, {"A": ("m",)}, {"-": ("m",)}, {1: ("m",)}, {("ann",): ("m",)}, {None: ("m",)},
    {"ann": ("m", "-")}, {"ann": ("m", ("p",))}, {name: ("m",) for name in "abcdefg"},
    {"zoe": ("m",), "ann": ("m", "M")},
)
NO_SIGHTINGS = (
    None, True, 0, "", (), {}, ("ann", 0, "m"), (("ann", 0, "m"),), [None], [["ann", 0, "m"]], [("ann", 0)],
    [("ann", 0, "m", 0)], [("A", 0, "m")], [("-", 0, "m")], [("ann", 7, "m")], [("ann", -1, "m")],
    [("ann", True, "m")], [("ann", 0, "")], [("ann", 0, "--")], [("ann", 0, None)], [("ann", 0, ["m"])],
    [(0, "ann", "m")], [("ann", "m", 0)], [("ann", 0, "m")] * 13, [("zoe", 0, "m"), ()],
)


def plain_wishes(world):
    """Return some wishes: plans of worlds of the class, of others, for one traveller and for several."""
    plans = sorted({plan for one in class_worlds(world) for _, plan in one})
    plans.extend([("m",), ("q", "q"), ("m", "p", "q", "q", "q"), ("r",), ("z", "m")])
    found = [{}]
    for at, plan in enumerate(plans):
        for step, name in enumerate(world.names):
            found.append({name: plan})
            found.append({name: plan, world.names[(step + 2) % 5]: plans[(at * 3 + step) % len(plans)]})
        found.append({name: plans[(at * 5 + 2 * step) % len(plans)] for step, name in enumerate(world.names)})
    return found


def grants(world, wishes):
    """Tell whether the world grants the wishes."""
    return all(world[name] == plan for name, plan in wishes.items())


def wished(wishes):
    """Return the list of all wished legs."""
    return [leg for name in wishes for leg in legs_of(wishes[name])]


class GrantTest(Case):
    def test_against_all_worlds(self):
        world = meeting_world()
        worlds = class_worlds(world)
        ledger = ledger_of(world)
        forms = set()
        for wishes in plain_wishes(world):
            paper = grant(world, wishes)
            starts = [(name, wishes[name][0], world.begin(name)) for name in sorted(wishes)
                      if wishes[name][0] != world.begin(name)]
            legs = wished(wishes)
            over = [(leg, legs.count(leg), ledger[leg]) for leg in sorted(set(legs)) if legs.count(leg) > ledger[leg]]
            self.same(overbooked(world, wishes), over)
            self.assertIs(is_grant(world, wishes, paper), True)
            forms.add(paper[0])
            if any(grants(one, wishes) for one in worlds):
                self.same(paper[0], "world")
                self.assertIs(paper[1].__class__, World)
                self.assertIs(grants(paper[1], wishes) and one_class(world, paper[1]), True)
            else:
                self.same(paper, ("start", *starts[0]) if starts else ("leg", *over[0]))
            for one in worlds[::5]:
                self.assertIs(is_grant(world, wishes, ("world", one)), grants(one, wishes))
            for row in starts:
                self.assertIs(is_grant(world, wishes, ("start", *row)), True)
            for row in over:
                self.assertIs(is_grant(world, wishes, ("leg", *row)), True)
        self.same(sorted(forms), ["leg", "start", "world"])

    def test_no_wishes(self):
        world = meeting_world()
        form, other = grant(world=world, wishes={})
        self.same(form, "world")
        self.assertIs(one_class(world, other), True)
        self.same([overbooked(world, {}), most_wishes(world, {})], [[], []])
        for one in class_worlds(world)[::7]:
            self.assertIs(is_grant(world, {}, ("world", one)), True)

    def test_all_travellers_wish(self):
        world, target = example()
        form, other = grant(world, target.plans)
        self.same(form, "world")
        self.assertIs(other == target, True)
        self.same(most_wishes(world, target.plans), list(world.names))

    def test_the_order_of_the_papers(self):
        world = meeting_world()
        wishes = {"eve": ("m",), "dan": ("r", "z"), "bob": ("m", "z"), "cat": ("m", "a")}
        self.same(grant(world, wishes), ("start", "dan", "r", "q"))
        del wishes["dan"], wishes["eve"]
        self.same(grant(world, wishes), ("leg", (0, "m", "a"), 1, 0))
        self.same(overbooked(world=world, wishes=wishes), [
            ((0, "m", "a"), 1, 0), ((0, "m", "z"), 1, 0), ((1, "a", "-"), 1, 0), ((1, "z", "-"), 1, 0)])
        wishes = {"ann": ("m", "p"), "bob": ("m", "p"), "cat": ("m", "p")}
        self.same(overbooked(world, wishes), [((0, "m", "p"), 3, 2), ((1, "p", "-"), 3, 1)])
        self.same(grant(world, wishes), ("leg", (0, "m", "p"), 3, 2))

    def test_towns_that_the_web_does_not_have(self):
        world = meeting_world()
        self.same(grant(world, {"ann": ("zoo",)}), ("start", "ann", "zoo", "m"))
        self.same(grant(world, {"ann": ("m", "zoo")}), ("leg", (0, "m", "zoo"), 1, 0))
        self.assertIs(is_grant(world, {"ann": ("zoo",)}, ("leg", (0, "zoo", "-"), 1, 0)), True)
        self.same(most_wishes(world, {"ann": ("zoo",), "eve": ("q",)}), ["eve"])

    def test_unknown_travellers(self):
        world = meeting_world()
        for call in (grant, overbooked, most_wishes, lambda one, wishes: is_grant(one, wishes, None)):
            self.refused(UnknownTraveller, {"name": "abe"}, call, world,
                         {"zoe": ("m",), "ann": ("q",), "abe": ("m",), "fay": ("x",)})
            self.refused(UnknownTraveller, {"name": "m"}, call, world, {"m": ("m",)})
            for wishes in NO_WISHES:
                self.misshapen("wishes", call, world, wishes)

    def test_most_plans_and_longest_plans(self):
        world = full_world(6)
        self.same(grant(world, world.plans)[1].rows, world.rows)
        self.same(most_wishes(world, world.plans), list(world.names))


class MostWishesTest(Case):
    def test_against_all_worlds(self):
        world = meeting_world()
        worlds = class_worlds(world)
        for wishes in plain_wishes(world):
            best = []
            for one in worlds:
                names = [name for name in sorted(wishes) if one[name] == wishes[name]]
                if len(names) > len(best) or len(names) == len(best) and names < best:
                    best = names
            self.same(most_wishes(world=world, wishes=wishes), best)

    def test_several_longest_lists(self):
        world = World(Web.full(["m", "p"]), {"ann": ("m", "m"), "bob": ("m", "p"), "cat": ("m", "p")})
        wishes = {"cat": ("m", "m"), "bob": ("m", "m"), "ann": ("m", "p")}
        self.same(most_wishes(world, wishes), ["ann", "bob"])
        wishes = {"cat": ("m", "m"), "bob": ("m", "m"), "ann": ("m", "m")}
        self.same(most_wishes(world, wishes), ["ann"])
        wishes = {"cat": ("m", "p"), "bob": ("m", "p"), "ann": ("m", "p")}
        self.same(most_wishes(world, wishes), ["ann", "bob"])
        wishes = {"cat": ("m", "p"), "bob": ("m", "p"), "ann": ("p",)}
        self.same(most_wishes(world, wishes), ["bob", "cat"])


class JudgeTest(Case):
    def test_world_papers(self):
        world, target = example()
        wishes = {"ann": ("m", "q", "w")}
        self.assertIs(is_grant(world=world, wishes=wishes, paper=("world", target)), True)
        self.assertIs(is_grant(world, wishes, ("world", world)), False)
        self.assertIs(is_grant(world, {}, ("world", world)), True)
        self.assertIs(is_grant(world, wishes, ["world", target]), False)
        self.assertIs(is_grant(world, wishes, ("world", target, 0)), False)
        self.assertIs(is_grant(world, wishes, ("worlds", target)), False)
        self.assertIs(is_grant(world, wishes, ("world",)), False)
        self.assertIs(is_grant(world, wishes, target), False)
        others = [
            World(Web.full(list("mpquvwzx")), target.plans),
            World(world.web, {**target.plans, "eve": ("m",)}),
            World(world.web, {"ann": ("m", "q", "w")}),
            World(world.web, {**target.plans, "bob": ("m", "q", "v")}),
            World(world.web, {**target.plans, "bob": ("p", "q", "z")}),
            World(world.web, {"ann": ("m", "q", "w"), **{name: world[name] for name in ("bob", "cat", "dan")}}),
        ]
        strange = [None, True, 0, "world", [], (), {}, target.plans, target.rows, target.web, Bag(), wishes]
        for other in others + strange:
            self.assertIs(is_grant(world, wishes, ("world", other)), False)

    def test_start_papers(self):
        world = meeting_world()
        wishes = {"ann": ("q", "p"), "bob": ("m",), "eve": ("m", "p")}
        for row, wanted in ((("ann", "q", "m"), True), (("eve", "m", "q"), True), (("ann", "m", "q"), False),
                            (("bob", "m", "m"), False), (("cat", "q", "m"), False), (("zoe", "q", "m"), False),
                            (("ann", "p", "m"), False), (("ann", "q", "p"), False), (("eve", "q", "m"), False)):
            self.assertIs(is_grant(world, wishes, ("start", *row)), wanted)
            self.assertIs(is_grant(world, wishes, ["start", *row]), False)
            self.assertIs(is_grant(world, wishes, ("leg", *row)), False)
            self.assertIs(is_grant(world, wishes, ("starts", *row)), False)
            self.assertIs(is_grant(world, wishes, ("start", *row, 0)), False)
            self.assertIs(is_grant(world, wishes, ("start", *row[:2])), False)
        for value in (*NO_NAMES, world):
            self.assertIs(is_grant(world, wishes, ("start", value, "q", "m")), False)
            self.assertIs(is_grant(world, wishes, ("start", "ann", value, "m")), False)
            self.assertIs(is_grant(world, wishes, ("start", "ann", "q", value)), False)

    def test_leg_papers(self):
        world = meeting_world()
        wishes = {"ann": ("m", "p"), "bob": ("m", "p"), "cat": ("m", "p"), "dan": ("q", "p", "m")}
        for row in overbooked(world, wishes):
            self.assertIs(is_grant(world, wishes, ("leg", *row)), True)
            self.assertIs(is_grant(world, wishes, ("leg", row[0], row[1] + 1, row[2])), False)
            self.assertIs(is_grant(world, wishes, ("leg", row[0], row[1] - 1, row[2])), False)
            self.assertIs(is_grant(world, wishes, ("leg", row[0], row[1], row[2] + 1)), False)
            self.assertIs(is_grant(world, wishes, ("leg", row[0], row[2], row[1])), False)
            self.assertIs(is_grant(world, wishes, ("leg", list(row[0]), row[1], row[2])), False)
            for form in ("start", "legs", "world", None, world):
                self.assertIs(is_grant(world, wishes, (form, *row)), False)
            self.assertIs(is_grant(world, wishes, ["leg", *row]), False)
            for value in NO_NUMBERS:
                self.assertIs(is_grant(world, wishes, ("leg", row[0], value, row[2])), False)
                self.assertIs(is_grant(world, wishes, ("leg", row[0], row[1], value)), False)
                self.assertIs(is_grant(world, wishes, ("leg", value, row[1], row[2])), False)
        self.assertIs(is_grant(world, wishes, ("leg", (1, "p", "-"), 3, True)), False)
        self.assertIs(is_grant(world, wishes, ("leg", (1, "p", "-"), 3, 1)), True)
        self.assertIs(is_grant(world, wishes, ("leg", (1, "p", "m"), True, 0)), False)
        self.assertIs(is_grant(world, wishes, ("leg", (1, "p", "m"), 1, False)), False)
        self.assertIs(is_grant(world, wishes, ("leg", (1, "p", "m"), 1, 0)), True)
        self.assertIs(is_grant(world, wishes, ("leg", (True, "p", "-"), 3, 1)), False)
        self.assertIs(is_grant(world, wishes, ("leg", (0, "q", "p"), 1, 1)), False)
        self.assertIs(is_grant(world, wishes, ("leg", (1, "p", "q"), 0, 2)), False)
        self.assertIs(is_grant(world, wishes, ("leg", (5, "x", "y"), 0, 0)), False)
        for paper in (None, True, 0, "leg", [], (), {}, ("leg",), ("leg", (1, "p", "m"), 1), (1, 2, 3, 4)):
            self.assertIs(is_grant(world, wishes, paper), False)


class SightingsTest(Case):
    def test_meets(self):
        world = meeting_world()
        for name, day, place in itertools.product(world.names, range(7), ["m", "p", "q", "r", "-"]):
            self.same(meets(world=world, sightings=[(name, day, place)]), world.place(name, day) == place)
        self.assertIs(meets(world, []), True)
        right = [("ann", 0, "m"), ("bob", 2, "q"), ("eve", 1, "-"), ("eve", 6, "-")]
        self.assertIs(meets(world, right), True)
        self.assertIs(meets(world, right * 3), True)
        for at in range(5):
            self.assertIs(meets(world, right[:at] + [("cat", 1, "m")] + right[at:]), False)
        self.assertIs(meets(world, [("ann", 0, "m"), ("ann", 0, "p")]), False)

    def test_world_met(self):
        world = meeting_world()
        worlds = class_worlds(world)
        self.same(world_met(world=world, sightings=[]).rows, worlds[0].rows)
        asked = list(itertools.product(world.names, range(5), ["m", "p", "q", "-"]))
        for at in range(0, len(asked), 3):
            for many in (1, 2, 3):
                sightings = [asked[(at * step + step) % len(asked)] for step in range(1, many + 1)]
                found = [one for one in worlds if meets(one, sightings)]
                made = world_met(world, sightings)
                if found:
                    self.same(made.rows, found[0].rows)
                    self.same(world_met(world, sightings * 4 if many == 3 else sightings[::-1]).rows, found[0].rows)
                else:
                    self.assertIs(made, None)
        self.assertIs(world_met(world, [("ann", 1, "m"), ("ann", 1, "p")]), None)
        self.assertIs(world_met(world, [("eve", 3, "-"), ("eve", 1, "-")]) is None, False)

    def test_errors(self):
        great = full_world(6)
        for call in (meets, world_met):
            for world in (meeting_world(), great):
                for sightings in NO_SIGHTINGS:
                    self.misshapen("sightings", call, world, sightings)
                self.refused(UnknownTraveller, {"name": "zoe"}, call, world, [("zoe", 0, "x")])
                self.refused(UnknownTraveller, {"name": "m"}, call, world, [("ann", 0, "-"), ("m", 0, "-")])
                self.refused(UnknownTown, {"town": "x"}, call, world, [("ann", 0, "x"), ("zoe", 0, "y")])
                self.refused(UnknownTown, {"town": "ann"}, call, world, [("bob", 6, "-"), ("ann", 6, "ann")])
        self.same(len(NO_SIGHTINGS[-2]), 13)

    def test_too_many_worlds(self):
        world = full_world(6)
        for sightings in ([], [("ann", 0, "a")], [("ann", 0, "b")], [("ann", 0, "-")]):
            self.refused(TooMany, {"what": "worlds", "number": class_count(world)}, world_met, world, sightings)
        self.assertIs(meets(world, [("ann", 0, "a")]), True)
        self.assertIs(meets(pacing_world(4), [("ann", 0, "m")]), True)


class NothingChangesTest(Case):
    def test_what_is_passed_and_returned(self):
        world, target = example()
        wishes = {"dan": ("m", "q", "w"), "ann": ("m", "q", "w"), "bob": ("m", "p")}
        sightings = [("bob", 1, "q"), ("ann", 1, "p")]
        passed = repr([wishes, sightings, world.rows, target.rows])
        for call in (lambda: overbooked(world, wishes), lambda: most_wishes(world, wishes)):
            wanted = repr(call())
            call().clear()
            self.same(repr(call()), wanted)
        grant(world, wishes)
        paper = ("world", target)
        is_grant(world, wishes, paper)
        meets(world, sightings)
        world_met(world, sightings)
        made = grant(world, {"ann": ("m", "q", "w")})[1]
        wishes["ann"] = ("m",)
        self.same(made["ann"], ("m", "q", "w"))
        wishes["ann"] = ("m", "q", "w")
        self.same(repr([wishes, sightings, world.rows, target.rows]), passed)
        self.assertIs(paper[1], target)


if __name__ == "__main__":
    unittest.main()
