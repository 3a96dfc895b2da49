"""Goals, flows and cuts: points 60 to 66, and the interface of crossfarers/flows.py."""

import itertools
import time
import unittest

from crossfarers.bags import Bag
from crossfarers.classes import class_worlds
from crossfarers.deeds import done, replay
from crossfarers.errors import UnknownTown, UnknownTraveller
from crossfarers.flows import (
    bring_history, cut_size, is_cut, least_cut, may_pass, most, most_world, must_pass, passing, way_around,
    way_through,
)
from crossfarers.ledgers import ledger_of, legs_of
from crossfarers.verdicts import one_class
from crossfarers.wishes import grant
from crossfarers.worlds import Web, World
from tests.helpers import Case
from tests.samples import NO_NAMES, NO_NUMBERS, example, full_world, meeting_world, pacing_world, small_worlds

NO_TOLD = (
    None, True, 0, "", "ann", (), {}, ("ann",), {"ann": 1}, ["ann", "ann"], ["ann", "bob", "ann"], ["A"], ["-"], [""],
    [None], [1], [["ann"]], [("ann",)], ["a", "b", "c", "d", "e", "f", "g"], ["zoe", "-"],
)
NO_GOALS = (
    None, True, 0, "m", [], (), {}, (0,), [0, "m"], [0, "m", "p"], (7, "m"), (-1, "m"), (True, "m"), (0, "-"),
    (0, ""), (0, None), (0, ["m"]), (0, "m", "p", "q"), (6, "m", "p"), (7, "m", "-"), (0, "-", "m"), (0, "m", ""),
    (0, "m", None), (True, "m", "p"), ("m", 0), (0, "m", 0), ("ann", "bob", 0), (0, "m", ["p"]),
)
NO_CUTS = (
    None, True, 0, "", (), {}, ((0, "m"),), {(0, "m"): 1}, [None], [[0, "m"]], [(0,)], [(0, "m", "p")], [(7, "m")],
    [(-1, "m")], [(True, "m")], [(0, "-")], [(0, None)], [(0, ["m"])], [(0, "m"), (0, "m")], [(0, "p"), (0, "m")],
    [(1, "m"), (0, "p")], [(0, "x"), 1], [(0, "m"), None],
)
NO_SWITCHES = (None, 0, 1, "", "True", [], (), {}, [True])
ASKED = (passing, most, most_world, least_cut)


def goals_of(towns, days):
    """Return all crossings and legs of these towns up to a day."""
    goals = [(day, town) for day in range(days) for town in towns]
    legs = [(day, here, there) for day in range(days) for here in towns for there in towns + "-"]
    return goals + [leg for leg in legs if leg[0] < 6 or leg[2] == "-"]


def groups_of(names):
    """Return all lists of these names, each in one order."""
    return [list(row) for many in range(len(names) + 1) for row in itertools.combinations(names, many)]


def plain_passes(plan, goal):
    """Tell whether a plan passes a goal, by looking at the towns."""
    stops = plan + ("-",)
    if goal[0] >= len(plan) or plan[goal[0]] != goal[1]:
        return False
    return len(goal) == 2 or stops[goal[0] + 1] == goal[2]


def plain_size(world, names, goal, cut, around):
    """Return the size of a cut, sum by sum as points 62 and 63 tell."""
    size = 0
    for name in names:
        start = (0, world.begin(name))
        size += start not in cut and not (around and start == goal)
    for (day, here, there), number in ledger_of(world):
        leg, left, led = (day, here, there), (day, here) in cut, (day + 1, there)
        if not left:
            continue
        if leg == goal:
            size += 0 if around else number
        elif there == "-":
            size += number if around else 0
        elif led not in cut and not (around and led == goal):
            size += number
    return size


def plain_ways(world, name):
    """Return all used ways, found among all rows of towns."""
    ledger = ledger_of(world)
    towns = sorted({leg[1] for leg, _ in ledger})
    ways = []
    for last in range(world.last_day + 1):
        ways.extend([row for row in itertools.product(towns, repeat=last + 1)
                     if row[0] == world.begin(name) and all(ledger[leg] for leg in legs_of(row))])
    return sorted(ways)


def plain_bring(world, name, crossing):
    """Return the noted deeds, made as point 66 tells, with plans as dicts."""
    day, town = crossing
    plans = world.plans
    if plans[name][day:day + 1] == (town,):
        return []
    ways = [way for way in plain_ways(world, name) if plain_passes(way, crossing)]
    if not ways:
        return None
    noted = []
    for now in range(day):
        leg = (now, ways[0][now], ways[0][now + 1])
        if plans[name][now + 1:now + 2] != (ways[0][now + 1],):
            other = min(one for one in plans if leg in legs_of(plans[one]))
            noted.append((name, other, now))
            first, second = plans[name], plans[other]
            plans[name], plans[other] = first[:now + 1] + second[now + 1:], second[:now + 1] + first[now + 1:]
    return noted


class PassingTest(Case):
    def test_crossings(self):
        world = meeting_world()
        everyone = ["eve", "ann", "dan", "bob", "cat"]
        self.same(passing(world, everyone, (1, "p")), ["ann", "cat", "dan"])
        self.same(passing(world, everyone, (1, "p"), around=True), ["bob", "eve"])
        self.same(passing(world=world, names=["dan", "bob"], goal=(1, "p"), around=False), ["dan"])
        self.same(passing(world, [], (1, "p")), [])
        self.same([passing(world, everyone, (6, "r")), passing(world, everyone, (1, "q"))], [[], []])
        self.same(passing(world, everyone, (6, "r"), around=True), sorted(everyone))

    def test_legs(self):
        world = meeting_world()
        everyone = ["eve", "ann", "dan", "bob", "cat"]
        self.same(passing(world, everyone, (1, "p", "q")), ["ann", "dan"])
        self.same(passing(world, everyone, (1, "p", "-")), ["cat"])
        self.same(passing(world, everyone, (2, "q", "-"), around=True), ["ann", "cat", "eve"])
        self.same(passing(world, everyone, (0, "m", "r")), [])
        self.same(passing(world, everyone, (0, "p", "r")), [])

    def test_by_looking(self):
        for world in [meeting_world(), *small_worlds(2)[::9]]:
            towns = "".join(world.web.towns)
            for goal in goals_of(towns, 4):
                for around in (False, True):
                    wanted = [name for name in world.names if plain_passes(world[name], goal) != around]
                    self.same(passing(world, list(world.names)[::-1], goal, around=around), wanted)


class MostTest(Case):
    def check_most(self, world, worlds, names, goal):
        """Check the most, its world and its cut against all worlds of the class."""
        for around in (False, True):
            best = max(len(passing(one, names, goal, around=around)) for one in worlds)
            self.same(most(world, names, goal, around=around), best)
            made = most_world(world, names, goal, around=around)
            self.same(len(passing(made, names, goal, around=around)), best)
            self.assertIs(one_class(world, made), True)
            cut = least_cut(world, names, goal, around=around)
            self.same(cut_size(world, names, goal, cut, around=around), best)
            self.same(plain_size(world, names, goal, cut, around), best)
            self.assertIs(is_cut(world, names, goal, cut, best, around=around), True)
            if best > 0:
                self.assertIs(is_cut(world, names, goal, cut, best - 1, around=around), False)
        self.same(most(world, names, goal), most(world, names, goal, around=False))
        self.same(len(passing(most_world(world, names, goal), names, goal)), most(world, names, goal))
        self.same(cut_size(world, names, goal, least_cut(world, names, goal)), most(world, names, goal))

    def test_against_all_worlds(self):
        world = meeting_world()
        worlds = class_worlds(world)
        groups = groups_of(world.names)
        for at, goal in enumerate(goals_of("mpqr", 5)):
            for names in groups[at % 5::5]:
                self.check_most(world, worlds, names[::-1], goal)

    def test_small_worlds(self):
        for world in small_worlds(2)[::13] + small_worlds(3, 1)[::23]:
            worlds = class_worlds(world)
            for at, goal in enumerate(goals_of("mp", 3)):
                groups = groups_of(world.names)
                for names in groups[at % 2::2]:
                    self.check_most(world, worlds, names, goal)

    def test_the_example(self):
        world = example()[0]
        worlds = class_worlds(world)
        for goal in goals_of("mpqu", 3):
            for names in (["ann"], ["ann", "bob"], ["dan", "bob", "cat"], ["ann", "bob", "cat", "dan"]):
                self.check_most(world, worlds, names, goal)

    def test_long_plans(self):
        world = World(Web.full(["m", "p"]), {"ann": ("m",) * 7, "bob": ("m",) * 3 + ("p",) * 4,
                                             "cat": ("p",) * 3 + ("m",) * 3})
        worlds = class_worlds(world)
        for goal in goals_of("mp", 7):
            for names in groups_of(world.names):
                self.check_most(world, worlds, names, goal)

    def test_equal_legs(self):
        world = World(Web.full(["m", "p", "q"]), {
            "ann": ("m", "p", "q"), "bob": ("m", "p", "q"), "cat": ("m", "p"), "dan": ("m", "q", "q"),
            "eve": ("p", "p")})
        worlds = class_worlds(world)
        for goal in goals_of("mpq", 3):
            for names in groups_of(world.names)[::3]:
                self.check_most(world, worlds, names, goal)

    def test_units_that_are_led_back(self):
        world = World(Web.full(["m", "p"]), {
            "ann": ("m", "m", "m", "p", "m"), "bob": ("p", "m", "m", "p"), "cat": ("m", "p"),
            "dan": ("m", "p", "p", "m", "m"), "eve": ("p", "m"), "fay": ("m", "p")})
        worlds = class_worlds(world)
        for goal in goals_of("mp", 3):
            for names in (["bob", "ann", "cat", "eve"], ["fay", "dan", "ann"], ["eve", "cat", "bob", "dan", "ann"]):
                self.check_most(world, worlds, names, goal)

    def test_nobody_is_told(self):
        world = meeting_world()
        for goal in ((0, "m"), (1, "p", "-"), (6, "r"), (0, "m", "r")):
            for around in (False, True):
                self.same(most(world=world, names=[], goal=goal, around=around), 0)
                self.assertIs(one_class(world, most_world(world=world, names=[], goal=goal, around=around)), True)
                cut = least_cut(world=world, names=[], goal=goal, around=around)
                self.same(cut_size(world=world, names=[], goal=goal, cut=cut, around=around), 0)

    def test_start_crossings(self):
        world = meeting_world()
        names = ["ann", "bob", "eve"]
        self.same([most(world, names, (0, "m")), most(world, names, (0, "m"), around=True)], [2, 1])
        self.same([most(world, names, (0, "r")), most(world, names, (0, "r"), around=True)], [0, 3])

    def test_legs_that_nobody_uses(self):
        world = meeting_world()
        for goal in ((0, "m", "r"), (3, "r", "p"), (5, "p", "r"), (6, "r", "-"), (0, "m", "-")):
            self.same(most(world, ["ann", "bob", "dan"], goal), 0)
            self.same(most(world, ["ann", "bob", "dan"], goal, around=True), 3)

    def test_in_good_time_at_the_limit(self):
        world = full_world(6)
        begin = time.perf_counter()
        names = list(world.names)
        for goal in goals_of("abc", 7):
            for around in (False, True):
                best = most(world, names, goal, around=around)
                made = most_world(world, names, goal, around=around)
                self.same(len(passing(made, names, goal, around=around)), best)
                self.same(cut_size(world, names, goal, least_cut(world, names, goal, around=around), around=around),
                          best)
            may_pass(world, "fay", goal)
        self.assertLess(time.perf_counter() - begin, 30)


class CutTest(Case):
    def test_all_cuts_are_at_least_the_most(self):
        world = World(Web.full(["m", "p"]), {"ann": ("m", "p"), "bob": ("m", "m"), "cat": ("p", "p", "m")})
        crossings = [(day, town) for day in range(3) for town in "mp"]
        cuts = [[crossing for crossing in crossings if crossing in row] for many in range(7)
                for row in itertools.combinations(crossings, many)]
        for goal in goals_of("mp", 3):
            for names in (["ann", "bob", "cat"], ["bob"], ["cat", "ann"]):
                for around in (False, True):
                    sizes = []
                    for cut in cuts:
                        if goal in cut:
                            self.misshapen("cut", cut_size, world, names, goal, cut, around=around)
                            self.assertIs(is_cut(world, names, goal, cut, 100, around=around), False)
                            continue
                        size = cut_size(world, names, goal, cut, around=around)
                        self.same(size, plain_size(world, names, goal, cut, around))
                        self.assertIs(is_cut(world, names, goal, cut, size, around=around), True)
                        self.assertIs(is_cut(world, names, goal, cut, size + 1, around=around), True)
                        if size > 0:
                            self.assertIs(is_cut(world, names, goal, cut, size - 1, around=around), False)
                        sizes.append(size)
                    self.same(min(sizes), most(world, names, goal, around=around))

    def test_crossings_of_size_zero(self):
        world = meeting_world()
        names = ["ann", "bob", "dan"]
        for goal in ((1, "p"), (1, "p", "q"), (2, "q", "-")):
            for around in (False, True):
                cut = least_cut(world, names, goal, around=around)
                wider = sorted(cut + [(0, "r"), (3, "r"), (6, "m"), (6, "q")])
                self.same(cut_size(world, names, goal, wider, around=around),
                          plain_size(world, names, goal, wider, around))
                self.assertIs(is_cut(world, names, goal, wider, 10, around=around), True)
        self.same(cut_size(world, names, (1, "p"), []), 3)
        self.same([is_cut(world, names, (0, "m"), [], bound) for bound in (2, 3)], [False, True])
        self.same([is_cut(world, names, (0, "m"), [], bound, around=True) for bound in (0, 1)], [False, True])
        self.same(cut_size(world, names, (0, "m"), [], around=True), 1)

    def test_wrong_cuts(self):
        world = meeting_world()
        names, goal = ["ann", "bob"], (1, "p")
        for cut in NO_CUTS:
            for around in (False, True):
                self.misshapen("cut", cut_size, world, names, goal, cut, around=around)
                self.assertIs(is_cut(world, names, goal, cut, 100, around=around), False)
            self.misshapen("cut", cut_size, world, ["zoe"], (1, "x"), cut, around=None)
        self.misshapen("cut", cut_size, world, ["zoe"], (1, "x"), [(1, "x")])
        self.misshapen("cut", cut_size, world, names, goal, [(0, "m"), (1, "p")])
        self.assertIs(is_cut(world, names, goal, [(0, "m"), (1, "p")], 100), False)
        self.same(cut_size(world, names, (1, "p", "q"), [(0, "m"), (1, "p")]), 3)

    def test_unknown_towns_in_cuts(self):
        world = meeting_world()
        names, goal = ["ann", "bob"], (1, "p")
        self.refused(UnknownTown, {"town": "x"}, cut_size, world, names, goal, [(0, "m"), (0, "x"), (1, "a")])
        self.refused(UnknownTown, {"town": "y"}, cut_size, world, names, (1, "y"), [(0, "x")])
        self.refused(UnknownTraveller, {"name": "zoe"}, cut_size, world, ["ann", "zoe", "abe"], (1, "y"), [(0, "x")])
        self.assertIs(is_cut(world, names, goal, [(0, "x")], 100), False)
        self.assertIs(is_cut(world, names, goal, [(0, "m"), (6, "x")], 100), False)
        self.assertIs(is_cut(world=world, names=names, goal=goal, paper=[(0, "m")], bound=100, around=True), True)
        self.assertIs(is_cut(world, names, goal, world, 100), False)
        self.assertIs(is_cut(world, names, goal, [world], 100), False)
        self.assertIs(is_cut(world, names, goal, [(0, "m")], 10 ** 30 - 1), True)


class ShapesTest(Case):
    def test_shapes_in_the_order_of_the_parameters(self):
        world = meeting_world()
        for call in ASKED:
            for names in NO_TOLD:
                self.misshapen("names", call, world, names, None, around=None)
            for goal in NO_GOALS:
                self.misshapen("goal", call, world, ["zoe"], goal, around=None)
            for around in NO_SWITCHES:
                self.misshapen("around", call, world, ["zoe"], (0, "x"), around=around)
        for names in NO_TOLD:
            self.misshapen("names", cut_size, world, names, None, None, around=None)
            self.misshapen("names", is_cut, world, names, None, None, None, around=None)
        for goal in NO_GOALS:
            self.misshapen("goal", cut_size, world, ["zoe"], goal, None, around=None)
            self.misshapen("goal", is_cut, world, ["zoe"], goal, None, None, around=None)
        for bound in NO_NUMBERS:
            self.misshapen("bound", is_cut, world, ["zoe"], (0, "x"), None, bound, around=None)
        for around in NO_SWITCHES:
            self.misshapen("around", cut_size, world, ["zoe"], (0, "x"), [], around=around)
            self.misshapen("around", is_cut, world, ["zoe"], (0, "x"), None, 0, around=around)

    def test_unknown_names_and_towns(self):
        world = meeting_world()
        calls = [*ASKED, lambda one, names, goal: cut_size(one, names, goal, []),
                 lambda one, names, goal: is_cut(one, names, goal, None, 0)]
        for call in calls:
            self.refused(UnknownTraveller, {"name": "zoe"}, call, world, ["ann", "zoe", "abe"], (0, "x"))
            self.refused(UnknownTraveller, {"name": "m"}, call, world, ["m"], (0, "x", "y"))
            for goal, town in (((0, "x"), "x"), ((0, "x", "y"), "x"), ((0, "m", "y"), "y"), ((6, "y", "-"), "y"),
                               ((0, "ann"), "ann")):
                self.refused(UnknownTown, {"town": town}, call, world, ["ann", "bob"], goal)
                self.refused(UnknownTown, {"town": town}, call, world, [], goal)

    def test_single_travellers(self):
        world = meeting_world()
        for call in (may_pass, must_pass, way_through, way_around):
            for name in NO_NAMES:
                self.misshapen("name", call, world, name, None)
            for goal in NO_GOALS:
                self.misshapen("goal", call, world, "zoe", goal)
            self.refused(UnknownTraveller, {"name": "zoe"}, call, world, "zoe", (0, "x"))
            self.refused(UnknownTown, {"town": "x"}, call, world, "ann", (0, "x"))
            self.refused(UnknownTown, {"town": "x"}, call, world, "ann", (0, "x", "y"))
            self.refused(UnknownTown, {"town": "y"}, call, world, "ann", (0, "m", "y"))
        for name in NO_NAMES:
            self.misshapen("name", bring_history, world, name, None)
        for crossing in (*NO_GOALS, (0, "m", "p"), (6, "m", "-")):
            self.misshapen("crossing", bring_history, world, "zoe", crossing)
        self.refused(UnknownTraveller, {"name": "zoe"}, bring_history, world, "zoe", (0, "x"))
        self.refused(UnknownTown, {"town": "x"}, bring_history, world, "ann", (0, "x"))


class WaysTest(Case):
    def test_against_all_worlds(self):
        for world in [meeting_world(), example()[0], *small_worlds(2)[::17], *small_worlds(3, 1)[::29]]:
            worlds = class_worlds(world)
            towns = "".join(world.web.towns)
            for goal in goals_of(towns[:4], 4):
                for name in world.names:
                    passed = [plain_passes(one[name], goal) for one in worlds]
                    self.same(may_pass(world=world, name=name, goal=goal), any(passed))
                    self.same(must_pass(world=world, name=name, goal=goal), all(passed))
                    plans = sorted({one[name] for one in worlds})
                    through = [plan for plan in plans if plain_passes(plan, goal)]
                    past = [plan for plan in plans if not plain_passes(plan, goal)]
                    self.same(way_through(world=world, name=name, goal=goal), through[0] if through else None)
                    self.same(way_around(world=world, name=name, goal=goal), past[0] if past else None)

    def test_used_ways_are_granted(self):
        world = meeting_world()
        for name in world.names:
            ways = plain_ways(world, name)
            self.same(ways, sorted({one[name] for one in class_worlds(world)}))
            for way in ways:
                self.same(grant(world, {name: way})[0], "world")

    def test_goals_that_nobody_may_pass(self):
        world = meeting_world()
        for goal in ((0, "r"), (6, "q"), (0, "m", "r"), (3, "q", "p"), (6, "m", "-")):
            self.same([may_pass(world, "ann", goal), must_pass(world, "ann", goal)], [False, False])
            self.assertIs(way_through(world, "ann", goal), None)
            self.same(way_around(world, "ann", goal), ("m", "m", "q"))
        self.same([may_pass(world, "ann", (0, "m")), must_pass(world, "ann", (0, "m"))], [True, True])
        self.assertIs(way_around(world, "ann", (0, "m")), None)


class BringTest(Case):
    def test_against_the_document(self):
        for world in [meeting_world(), *example(), *small_worlds(2)[::7], *small_worlds(3, 1)[::13]]:
            for day in range(world.last_day + 2):
                for town in world.web.towns:
                    for name in world.names:
                        history = bring_history(world=world, name=name, crossing=(day, town))
                        self.same(history, plain_bring(world, name, (day, town)))
                        if history is not None:
                            self.same(replay(world, history).place(name, day), town)
                        else:
                            self.assertIs(may_pass(world, name, (day, town)), False)

    def test_long_plans(self):
        world = full_world(4)
        for crossing in ((6, "a"), (6, "b"), (5, "c"), (6, "h")):
            for name in world.names:
                ways = way_through(world, name, crossing)
                history = bring_history(world, name, crossing)
                self.same(history is None, ways is None)
                if history:
                    self.same(replay(world, history).place(name, crossing[0]), crossing[1])
                    self.same([deed[0] for deed in history], [name] * len(history))

    def test_there_already(self):
        world = meeting_world()
        for name, plan in world:
            for day, town in enumerate(plan):
                self.same(bring_history(world, name, (day, town)), [])
        self.assertIs(bring_history(world, "ann", (0, "q")), None)
        self.same(bring_history(world, "eve", (2, "q")), [("eve", "dan", 0)])
        self.same(bring_history(world, "eve", (3, "q")), [("eve", "dan", 0), ("eve", "ann", 2)])
        made = done(done(world, ("eve", "dan", 0)), ("eve", "ann", 2))
        self.same(made["eve"], ("q", "p", "q", "q"))


class NothingChangesTest(Case):
    def test_what_is_passed_and_returned(self):
        world = meeting_world()
        names, goal, cut = ["eve", "ann", "bob"], (2, "q"), [(0, "m"), (1, "m")]
        passed = repr([names, goal, cut, world.rows])
        for call in (lambda: passing(world, names, goal), lambda: least_cut(world, names, (3, "q")),
                     lambda: bring_history(world, "eve", (3, "q"))):
            wanted = list(call())
            self.assertTrue(wanted)
            call().clear()
            self.same(call(), wanted)
        for around in (False, True):
            most(world, names, goal, around=around)
            most_world(world, names, goal, around=around)
            cut_size(world, names, goal, cut, around=around)
            is_cut(world, names, goal, cut, 3, around=around)
            least_cut(world, names, goal, around=around)
        bring_history(world, "eve", (2, "q")).clear()
        bring_history(world, "ann", (0, "m")).append(0)
        self.same(bring_history(world, "ann", (0, "m")), [])
        self.same(repr([names, goal, cut, world.rows]), passed)
        self.assertIs(is_cut(world, names, goal, Bag(cut), 3), False)
        self.same(most(pacing_world(4), ["ann"], (3, "u")), 1)


if __name__ == "__main__":
    unittest.main()
