"""Fewest deeds: points 42 to 46, and the interface of crossfarers/fewest.py."""

import itertools
import math
import time
import unittest

from crossfarers.deeds import is_leading, replay
from crossfarers.errors import NotMap, TooMany, UnlikeClasses, UnlikeFrames
from crossfarers.fewest import (
    bound_table, day_bound, fewest, is_bound_table, is_least_history, least_history, least_row, map_count, maps_on,
    row_cost, step_cost,
)
from crossfarers.ledgers import legs_of
from crossfarers.worlds import Web, World
from tests.helpers import Case
from tests.samples import (
    NO_DAYS, NO_HISTORIES, NO_NUMBERS, example, meeting_world, pacing_world, reached, same_plans, small_worlds,
    some_history, worlds_reached,
)

NO_IMAGES = (
    None, True, 0, "ann", [], {}, [("ann", "ann")], (["ann", "ann"],), (("ann",),), (("ann", "ann", "ann"),),
    ("ann", "bob"), (None,), (("ann", None),), (("ann", "-"),), (("ann", 1),), (("A", "ann"),), ((["ann"], "ann"),),
)
SEARCHES = (fewest, day_bound, least_row, least_history, bound_table)


def judges():
    """Return the two judges as functions of two worlds, with right and wrong papers."""
    papers = (None, [], [[((), 0)]], True)
    return [lambda world, target, paper=paper: is_bound_table(world, target, paper, 0) for paper in papers] + [
        lambda world, target, paper=paper: is_least_history(world, target, paper, paper) for paper in papers]


def plain_maps(world, target, day):
    """Return all maps of the day: the ones among all rows of images that keep the legs."""
    legs, wanted = [{name: legs_of(plan)[day] for name, plan in one if len(plan) > day} for one in (world, target)]
    rows = [tuple(zip(sorted(wanted), images)) for images in itertools.permutations(sorted(legs))]
    return sorted(row for row in rows if all(legs[image] == wanted[name] for name, image in row))


def plain_cost(before, after):
    """Return the step cost: the pairs less the circuits, which are found by walking."""
    images = {dict(before)[name]: image for name, image in after}
    seen, circuits = set(), 0
    for name in images:
        circuits += name not in seen
        while name not in seen:
            seen.add(name)
            name = images[name]
    return len(images) - circuits


def identity(world):
    """Return the first map."""
    return tuple((name, name) for name in world.names)


def plain_rows(world, target):
    """Return all rows of maps."""
    return [list(row) for row in itertools.product(*[plain_maps(world, target, day)
                                                     for day in range(world.last_day + 1)])]


def plain_row_cost(world, row):
    """Return the cost of a row of maps."""
    return sum(plain_cost(before, after) for before, after in zip([identity(world)] + row, row))


def pairs_of_worlds():
    """Return pairs of worlds of one class, with the fewest deeds that a search finds."""
    found = []
    for world in [meeting_world(), *example(), *small_worlds(2)[::9], *small_worlds(3, 1)[::19]]:
        found.extend([(world, target, number) for target, number in worlds_reached(world)])
    return found


class MapsTest(Case):
    def test_maps_of_the_example(self):
        world, target = example()
        self.same(maps_on(world, target, 1), [
            (("ann", "cat"), ("bob", "dan"), ("cat", "bob"), ("dan", "ann"))])
        self.same(maps_on(world=world, target=target, day=0), [
            (("ann", "cat"), ("bob", "dan"), ("cat", "ann"), ("dan", "bob")),
            (("ann", "cat"), ("bob", "dan"), ("cat", "bob"), ("dan", "ann")),
            (("ann", "dan"), ("bob", "cat"), ("cat", "ann"), ("dan", "bob")),
            (("ann", "dan"), ("bob", "cat"), ("cat", "bob"), ("dan", "ann"))])
        self.same([map_count(world=world, target=target, day=day) for day in range(7)], [4, 1, 1, 1, 1, 1, 1])
        self.same([maps_on(world, target, day) for day in (3, 6)], [[()], [()]])

    def test_all_maps(self):
        for world, target, _ in pairs_of_worlds():
            for day in range(7):
                maps = plain_maps(world, target, day)
                self.same(maps_on(world, target, day), maps)
                self.same(map_count(world, target, day), len(maps))

    def test_too_many_maps_on_a_day(self):
        world = same_plans((("m", "m", "p"), 5), (("m", "p"), 1))
        self.same([map_count(world, world, day) for day in range(4)], [120, 120, 120, 1])
        self.refused(TooMany, {"what": "maps", "number": 120}, maps_on, world, world, 0)
        self.same(maps_on(world, world, 3), [()])
        world = same_plans((("m", "p"), 3), (("q", "m"), 3))
        crowd = same_plans((("m",), 6))
        self.same([map_count(world, world, 0), map_count(crowd, crowd, 0)], [36, 720])
        self.refused(TooMany, {"what": "maps", "number": 36}, maps_on, world, world, 1)
        world = same_plans((("m", "p"), 4), (("q", "m"), 1))
        self.same([len(maps_on(world, world, day)) for day in range(3)], [24, 24, 1])
        world = pacing_world(6)
        self.same([len(maps_on(world, world, day)) for day in range(7)], [24, 24, 12, 24, 1, 1, 1])

    def test_wrong_days(self):
        world, target = example()
        other = World(Web(["m"]), {"ann": ("m",)})
        for day in NO_DAYS:
            for call in (map_count, maps_on):
                self.misshapen("day", call, world, target, day)
                self.misshapen("day", call, world, other, day)
            self.misshapen("day", step_cost, world, other, day, None, None)


class CostsTest(Case):
    def test_step_costs(self):
        for world, target, _ in pairs_of_worlds()[::3]:
            befores = [identity(world)]
            for day in range(world.last_day + 1):
                afters = plain_maps(world, target, day)
                for before, after in itertools.product(befores, afters):
                    self.same(step_cost(world, target, day, before, after), plain_cost(before, after))
                befores = afters

    def test_days_behind_the_last_day(self):
        world, target = example()
        last = maps_on(world, target, 2)[0]
        self.same(step_cost(world=world, target=target, day=3, before=last, after=()), 0)
        self.same([step_cost(world, target, day, (), ()) for day in (4, 5, 6)], [0, 0, 0])
        self.refused(NotMap, {"day": 2}, step_cost, world, target, 3, (), ())
        self.refused(NotMap, {"day": 3}, step_cost, world, target, 4, last, ())
        self.refused(NotMap, {"day": 3}, step_cost, world, target, 3, last, last)
        self.refused(NotMap, {"day": 6}, step_cost, world, target, 6, (), (("ann", "ann"),))

    def test_no_maps(self):
        world, target = example()
        first = identity(world)
        right = maps_on(world, target, 0)[0]
        then = maps_on(world, target, 1)[0]
        self.same([step_cost(world, target, 0, first, right), step_cost(world, target, 1, right, then)], [2, 1])
        wrong = (
            (), right[1:], right[:-1], right[::-1], right + right[-1:], right[:1] * 4, first,
            right[:3] + (("dan", "ann"),), right[:3] + (("zoe", "bob"),), right[:3] + (("dan", "zoe"),),
            (("ann", "dan"), ("bob", "dan"), ("cat", "ann"), ("dan", "bob")),
            (("ann", "ann"), ("bob", "dan"), ("cat", "cat"), ("dan", "bob")), right * 100,
        )
        for after in wrong:
            self.refused(NotMap, {"day": 0}, step_cost, world, target, 0, first, after)
            self.refused(NotMap, {"day": 0}, step_cost, world, target, 1, after, then)
            self.refused(NotMap, {"day": 0}, step_cost, world, target, 1, after, right)
            self.refused(NotMap, {"day": 1}, step_cost, world, target, 1, right, after)
            self.refused(NotMap, {"day": 0}, row_cost, world, target, [after, then, then])
            self.refused(NotMap, {"day": 1}, row_cost, world, target, [right, after, after])
        for before in (right, (), first[::-1], first[1:], first + first[:1], first[:3] + (("dan", "ann"),)):
            self.refused(NotMap, {"day": -1}, step_cost, world, target, 0, before, right)
            self.refused(NotMap, {"day": -1}, step_cost, world, target, 0, before, first)

    def test_a_map_of_unlike_legs_at_one_crossing(self):
        world = World(Web.full(["m", "p"]), {"ann": ("m", "p"), "bob": ("m", "m")})
        self.refused(NotMap, {"day": 0}, step_cost, world, world, 0, identity(world), (("ann", "bob"), ("bob", "ann")))
        self.same(step_cost(world, world, 0, identity(world), identity(world)), 0)

    def test_row_costs(self):
        for world, target, _ in pairs_of_worlds()[::5]:
            for row in plain_rows(world, target)[:40]:
                self.same(row_cost(world, target, row), plain_row_cost(world, row))

    def test_rows_of_wrong_lengths(self):
        world, target = example()
        row = least_row(world, target)
        self.same(row_cost(world=world, target=target, row=row), 3)
        for many in range(3):
            self.refused(NotMap, {"day": many}, row_cost, world, target, row[:many])
        for more in ([()], [(), ()], [row[2]], [()] * 10):
            self.refused(NotMap, {"day": 3}, row_cost, world, target, row + more)
        self.refused(NotMap, {"day": 2}, row_cost, world, target, row[:2] + [(), ()])
        week = World(Web(["m"]), {"ann": ("m",) * 7})
        self.same(row_cost(week, week, [(("ann", "ann"),)] * 7), 0)
        self.refused(NotMap, {"day": 7}, row_cost, week, week, [(("ann", "ann"),)] * 8)
        self.refused(NotMap, {"day": 7}, row_cost, week, week, [(("ann", "ann"),)] * 7 + [()])

    def test_costs_never_raise_too_many(self):
        world = same_plans((("m",), 6))
        turned = tuple(zip("abcdef", "bcdefa"))
        self.same(step_cost(world, world, 0, identity(world), turned), 5)
        self.same(row_cost(world, world, [turned]), 5)

    def test_wrong_shapes(self):
        world, target = example()
        other = World(Web(["m"]), {"ann": ("m",)})
        right = maps_on(world, target, 0)[0]
        for images in NO_IMAGES:
            self.misshapen("before", step_cost, world, other, 0, images, None)
            self.misshapen("after", step_cost, world, other, 0, (), images)
            self.misshapen("row", row_cost, world, other, [images])
            self.misshapen("row", row_cost, world, other, [right, images])
        for row in (None, True, 0, "", (), {}, (right,), right, {right: 0}):
            self.misshapen("row", row_cost, world, other, row)


class FewestTest(Case):
    def test_the_example(self):
        world, target = example()
        self.same([fewest(world=world, target=target), day_bound(world=world, target=target)], [3, 2])
        self.same(len(reached(world)), 24)
        self.same([least_row(world=world, target=target)[0][0], len(least_row(world, target))], [("ann", "cat"), 3])

    def test_against_a_search(self):
        for world, target, number in pairs_of_worlds():
            self.same(fewest(world, target), number)
            row = least_row(world, target)
            self.same(row_cost(world, target, row), number)
            history = least_history(world, target)
            self.same(len(history), number)
            self.assertIs(is_leading(world, target, history), True)
            table = bound_table(world, target)
            self.assertIs(is_bound_table(world, target, table, number), True)
            self.assertIs(is_bound_table(world, target, table, number + 1), False)
            self.assertIs(is_least_history(world, target, history, table), True)

    def test_day_bounds(self):
        less = 0
        for world, target, number in pairs_of_worlds():
            befores = [identity(world)]
            total = 0
            for day in range(world.last_day + 1):
                afters = plain_maps(world, target, day)
                total += min(plain_cost(*pair) for pair in itertools.product(befores, afters))
                befores = afters
            self.same(day_bound(world, target), total)
            less += total < number
        self.assertGreater(less, 0)

    def test_rows_of_least_cost(self):
        for world, target, number in pairs_of_worlds()[::7]:
            costs = [plain_row_cost(world, row) for row in plain_rows(world, target)]
            self.same(min(costs), number)

    def test_bound_tables(self):
        for world, target, _ in pairs_of_worlds()[::7]:
            table = bound_table(world=world, target=target)
            rows = plain_rows(world, target)
            self.same(len(table), world.last_day + 1)
            for day, entry in enumerate(table):
                self.same([pair[0] for pair in entry], plain_maps(world, target, day))
                for one, number in entry:
                    costs = [plain_row_cost(world, row[:day + 1]) for row in rows if row[day] == one]
                    self.same(number, min(costs))

    def test_one_class_is_needed(self):
        world = meeting_world()
        fewer = World(world.web, {name: plan for name, plan in world if name != "ann"})
        plans = {**world.plans, "ann": ("p", "p")}
        paper = ("start", "ann", "m", "p")
        calls = [*SEARCHES, *judges(), lambda first, second: row_cost(first, second, []),
                 lambda first, second: map_count(first, second, 6), lambda first, second: maps_on(first, second, 6),
                 lambda first, second: step_cost(first, second, 0, (), ())]
        for call in calls:
            self.refused(UnlikeFrames, {"part": "web"}, call, world, World(Web.full(list("mpqr")), fewer.plans))
            self.refused(UnlikeFrames, {"part": "travellers"}, call, world, fewer)
            self.refused(UnlikeClasses, {"paper": paper}, call, world, World(world.web, plans))

    def test_classes_go_ahead_of_limits(self):
        world = same_plans((("m", "p"), 6))
        other = World(world.web, {**world.plans, "a": ("m", "m")})
        for call in [*SEARCHES, *judges()]:
            self.refused(UnlikeClasses, {"paper": ("leg", (0, "m", "m"), 0, 1)}, call, world, other)


class LimitsTest(Case):
    def test_too_many_maps(self):
        for groups, number in (
                (((("m",), 5),), 120), (((("m", "p"), 6),), 720), (((("m",), 3), (("p",), 3)), 36),
                (((("m", "p", "q"), 4), (("m", "p", "p"), 2)), 720), (((("m", "p"), 4), (("q", "m"), 2)), 48)):
            world = same_plans(*groups)
            for call in [*SEARCHES, *judges()]:
                self.refused(TooMany, {"what": "maps", "number": number}, call, world, world)

    def test_the_least_day_decides(self):
        world = World(Web.full(list("mpq")), {
            "a": ("m", "p", "p"), "b": ("m", "p", "p"), "c": ("m", "p", "p"), "d": ("q", "p", "p"),
            "e": ("q", "p", "p"), "f": ("m", "m", "p")})
        self.same([map_count(world, world, day) for day in range(4)], [12, 120, 720, 1])
        for call in [*SEARCHES, *judges()]:
            self.refused(TooMany, {"what": "maps", "number": 120}, call, world, world)

    def test_maps_go_ahead_of_pairs(self):
        world = World(Web.full(list("mpq")), {**{name: ("m",) * 6 + ("p",) for name in "abcd"}, "e": ("p",) * 7})
        self.same([map_count(world, world, day) for day in range(7)], [24, 24, 24, 24, 24, 24, 120])
        for call in [*SEARCHES, *judges()]:
            self.refused(TooMany, {"what": "maps", "number": 120}, call, world, world)

    def test_too_many_pairs(self):
        for last in (4, 5, 6):
            world = pacing_world(last)
            counts = [math.prod([math.factorial(number) for number in numbers]) for numbers in
                      ([4, 1, 1], [4, 1, 1], [3, 1, 2], [4, 1, 1]) + ([1],) * (last - 3)]
            self.same([map_count(world, world, day) for day in range(last + 1)], counts)
            pairs = sum(before * after for before, after in zip([1] + counts, counts))
            self.same(pairs, 1200 + last - 4)
            for call in [*SEARCHES, *judges()]:
                if last > 4:
                    self.refused(TooMany, {"what": "pairs", "number": pairs}, call, world, world)
                else:
                    call(world, world)
        week = same_plans((("m",) * 7, 4))
        for call in [*SEARCHES, *judges()]:
            self.refused(TooMany, {"what": "pairs", "number": 24 + 6 * 576}, call, week, week)

    def test_in_good_time_at_the_limit(self):
        world = pacing_world(4)
        target = replay(world, some_history(world, 20))
        begin = time.perf_counter()
        table, history = bound_table(world, target), least_history(world, target)
        self.same(fewest(world, target), len(history))
        self.assertIs(is_least_history(world, target, history, table), True)
        self.same(row_cost(world, target, least_row(world, target)), len(history))
        self.assertLess(time.perf_counter() - begin, 20)


class TablesTest(Case):
    def setUp(self):
        self.world, self.target = example()
        self.table = bound_table(self.world, self.target)
        self.history = least_history(self.world, self.target)

    def judged(self, paper, bound, wanted):
        self.assertIs(is_bound_table(self.world, self.target, paper, bound), wanted)
        if bound == 3:
            self.assertIs(is_least_history(self.world, self.target, self.history, paper), wanted)

    def bent(self, day, at, pair):
        """Return the table with another pair in one place."""
        table = [list(entry) for entry in self.table]
        table[day][at] = pair
        return table

    def test_right_tables(self):
        self.assertIs(is_bound_table(world=self.world, target=self.target, paper=self.table, bound=3), True)
        for bound in range(4):
            self.judged(self.table, bound, True)
        self.judged(self.table, 4, False)
        self.judged(self.table, 10 ** 30 - 1, False)

    def test_lower_numbers_prove_less(self):
        lower = [[(one, max(number - 1, 0)) for one, number in entry] for entry in self.table]
        self.judged(lower, 2, True)
        self.judged(lower, 3, False)
        zeros = [[(one, 0) for one, _ in entry] for entry in self.table]
        self.judged(zeros, 0, True)
        self.judged(zeros, 1, False)

    def test_numbers_that_are_too_great(self):
        for day, entry in enumerate(self.table):
            for at, (one, number) in enumerate(entry):
                for more in (1, 2, 10 ** 20):
                    self.judged(self.bent(day, at, (one, number + more)), 0, False)

    def test_each_number_is_held_by_all_pairs_before(self):
        world, target = self.world, self.target
        for day in (1, 2):
            for at, (one, number) in enumerate(self.table[day - 1]):
                if number == 0:
                    continue
                table = self.bent(day - 1, at, (one, number - 1))
                steps = [least + step_cost(world, target, day, before, self.table[day][0][0])
                         for before, least in table[day - 1]]
                self.judged(table, 0, min(steps) >= self.table[day][0][1])

    def test_bent_shapes(self):
        one, number = self.table[0][0]
        last, most = self.table[2][0]
        for value in (*NO_NUMBERS, [number]):
            self.judged(self.bent(0, 0, (one, value)), 0, False)
        self.judged(self.bent(1, 0, (self.table[1][0][0], True)), 0, False)
        for pair in ([one, number], (one,), (one, number, 0), (list(one), number), None, 0, (), one,
                     (tuple([list(part) for part in one]), number), (one[::-1], number), (number, one),
                     (self.table[0][1][0], number), (self.world, number), ((), 0), (one[:3], number)):
            self.judged(self.bent(0, 0, pair), 0, False)
        for paper in (None, True, 0, "", [], (), {}, tuple(self.table), self.table[:2], self.table[1:],
                      self.table + self.table[2:], self.table + [[((), 0)]], [tuple(self.table[0]), *self.table[1:]],
                      [self.table[0][1:], *self.table[1:]], [self.table[0][::-1], *self.table[1:]],
                      [self.table[0] + self.table[0][:1], *self.table[1:]], [[], *self.table[1:]],
                      [*self.table[:2], []], [None, *self.table[1:]], [*self.table[:2], None], self.world,
                      [dict(self.table[0]), *self.table[1:]], [*self.table[:2], [(last, True)]],
                      [*self.table[:2], ((last, most),)]):
            self.judged(paper, 0, False)
            self.judged(paper, 3, False)

    def test_wrong_bounds(self):
        other = World(Web(["m"]), {"ann": ("m",)})
        for bound in NO_NUMBERS:
            self.misshapen("bound", is_bound_table, self.world, other, self.table, bound)
            self.misshapen("bound", is_bound_table, self.world, self.target, None, bound)

    def test_least_histories(self):
        def judged(paper, wanted):
            self.assertIs(is_least_history(self.world, self.target, paper, self.table), wanted)
        self.assertIs(
            is_least_history(world=self.world, target=self.target, paper=self.history, table=self.table), True)
        first, second, third = self.history
        judged([first, second, third], True)
        judged([first, (second[1], second[0], second[2]), third], True)
        judged([first, second, third, third, third], False)
        judged([first, second], False)
        judged([third, second, first], False)
        judged([], False)
        judged([first, second, list(third)], False)
        judged([first, second, third[:2] + (True,)], False)
        judged((first, second, third), False)
        for paper in NO_HISTORIES:
            judged(paper, False)
        for table in (None, [], self.table[1:], tuple(self.table)):
            self.assertIs(is_least_history(self.world, self.target, self.history, table), False)
        lower = [[(one, max(number - 1, 0)) for one, number in entry] for entry in self.table]
        self.assertIs(is_least_history(self.world, self.target, self.history, lower), False)
        self.assertIs(is_least_history(self.world, self.world, [], bound_table(self.world, self.world)), True)

    def test_what_is_passed_and_returned(self):
        world, target = self.world, self.target
        passed = repr([self.table, self.history, least_row(world, target)])
        row = least_row(world, target)
        is_bound_table(world, target, self.table, 3)
        is_least_history(world, target, self.history, self.table)
        row_cost(world, target, row)
        self.same(repr([self.table, self.history, row]), passed)
        maps = maps_on(world, target, 0)
        wanted = repr(maps)
        maps.clear()
        row.clear()
        least_history(world, target).clear()
        table = bound_table(world, target)
        table[0].clear()
        table[2][0] = None
        self.same(repr(maps_on(world, target, 0)), wanted)
        self.same(repr([bound_table(world, target), least_history(world, target), least_row(world, target)]), passed)
        self.same(fewest(world, target), 3)


if __name__ == "__main__":
    unittest.main()
