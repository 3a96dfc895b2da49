"""Classes: points 51 to 55, and the interface of crossfarers/classes.py."""

import itertools
import time
import unittest

from crossfarers.changes import renamed, shifted
from crossfarers.classes import (
    between, check_small, class_count, class_worlds, crossing_counts, deed_graph, distances, rank_of, walk_numbers,
    world_of_rank,
)
from crossfarers.deeds import deed_count, done
from crossfarers.errors import NoRank, TooMany, UnlikeClasses, UnlikeFrames
from crossfarers.fewest import day_bound, fewest
from crossfarers.ledgers import crossings_of, ledger_of, legs_of, standing, starts_of, world_of
from crossfarers.worlds import Web, World
from tests.helpers import Case
from tests.samples import (
    NO_NUMBERS, example, full_world, meeting_world, plain_deeds, plain_done, reached, same_plans, small_worlds,
)


def listed_world(more):
    """Return a world with a class of 400 worlds, or of 405 if `more`."""
    rows = ["mpmp", "mpmp", "mpmp", "mqmq", "mqmq", "mqmq"]
    if more:
        rows = ["ppmmm", "pqmmm", "ppamm", "qpmmm", "qqmmp", "qqmmp"]
    return World(Web.full(["a", "m", "p", "q"]), {name: tuple(row) for name, row in zip("abcdef", rows)})


def week_world():
    """Return a world with a class of 36 worlds, each of which 20 deeds fit."""
    rows = {"ann": "caabc", "bob": "caabc", "cat": "cacbca", "dan": "caccb"}
    return World(Web.full(["a", "b", "c"]), {name: tuple(row) for name, row in rows.items()})


def forty_world():
    """Return a world with a class of 40 worlds, each of which 21 deeds fit."""
    rows = ["mpmp", "mpmp", "mpm", "mqm", "qqm"]
    return World(Web.full(["m", "p", "q"]), {name: tuple(row) for name, row in zip("abcde", rows)})


def plain_arrangements(world):
    """Return for each crossing the list of all arrangements of its legs, in ascending order."""
    rows = []
    for day, town in crossings_of(world):
        legs = [legs_of(world[name])[day] for name in standing(world, (day, town))]
        rows.append(sorted(set(itertools.permutations(legs))))
    return rows


def plain_rank(world):
    """Return the rank, found by looking up each arrangement among all of its crossing."""
    rank = 0
    for (day, town), rows in zip(crossings_of(world), plain_arrangements(world)):
        legs = tuple([legs_of(world[name])[day] for name in standing(world, (day, town))])
        rank = rank * len(rows) + rows.index(legs)
    return rank


def some_worlds():
    """Return worlds with classes that are quickly searched."""
    return [meeting_world(), example()[0], example()[1], week_world(), *small_worlds(2)[::7],
            *small_worlds(3, 1)[::13]]


def small_classes():
    """Return worlds with small classes."""
    worlds = [example()[0], week_world(), *small_worlds(2)[::17], *small_worlds(3, 1)[::19]]
    return [world for world in worlds if class_count(world) <= 36 and deed_count(world) <= 20]


class CountsTest(Case):
    def test_counts(self):
        self.same(crossing_counts(meeting_world()), [
            ((0, "m"), 3), ((0, "q"), 2), ((1, "m"), 1), ((1, "p"), 3), ((2, "q"), 3), ((3, "q"), 1)])
        self.same([class_count(world=meeting_world()), class_count(example()[0])], [54, 24])
        self.same(crossing_counts(world=World(Web(["m"]), {"ann": ("m",)})), [((0, "m"), 1)])
        self.same(class_count(World(Web(["m"]), {"ann": ("m",)})), 1)
        self.same([class_count(world) for world in (week_world(), forty_world(), listed_world(False))], [36, 40, 400])

    def test_counts_are_what_deeds_reach(self):
        for world in some_worlds():
            found = reached(world)
            self.same(class_count(world), len(found))
            counts = crossing_counts(world)
            for rows in list(found)[::5]:
                self.same(crossing_counts(World(world.web, dict(rows))), counts)

    def test_counts_far_above_the_limits(self):
        plans = {name: tuple("abcdef"[(at * step) % 7 % 6] for step in range(7)) for at, name in enumerate("uvwxyz")}
        world = World(Web.full(list("abcdef")), plans)
        product = 1
        for rows in plain_arrangements(world):
            product *= len(rows)
        self.same(class_count(world), product)
        self.same(class_count(same_plans((("m",) * 7, 6))), 1)

    def test_behind_shifting_and_renaming(self):
        for world in (example()[0], forty_world(), World(Web(["m"]), {"ann": ("m",)})):
            for days in range(3):
                self.same(class_count(shifted(world, days)), class_count(world))
            names = [(world.names[0], world.names[-1]), (world.names[-1], "abe")]
            if len(world.names) > 1:
                self.same(class_count(renamed(world, travellers=names)), class_count(world))
            self.same(class_count(renamed(world, towns=[("m", "zoo")])), class_count(world))
        world = meeting_world()
        pairs = [("p", "q"), ("q", "p")]
        self.same([number for _, number in crossing_counts(renamed(world, towns=pairs))], [3, 2, 1, 3, 3, 1])


class RanksTest(Case):
    def test_the_example(self):
        world, target = example()
        self.same([rank_of(world=world), rank_of(world=target)], [0, 22])
        self.same([fewest(world, target), day_bound(world, target)], [3, 2])
        self.assertIs(world_of_rank(world=world, number=22) == target, True)

    def test_ranks_lead_to_worlds_and_back(self):
        for world in some_worlds():
            count = class_count(world)
            rows = set()
            for rank in range(count):
                made = world_of_rank(world, rank)
                self.same(rank_of(made), rank)
                self.same(plain_rank(made), rank)
                self.same(starts_of(made), starts_of(world))
                self.assertIs(ledger_of(made) == ledger_of(world), True)
                rows.add(made.rows)
            self.same(rows == set(reached(world)), True)
            first = world_of(world.web, starts_of(world), ledger_of(world))
            self.same(world_of_rank(world, 0).rows, first.rows)
            self.assertIs(world_of_rank(world, rank_of(world)) == world, True)

    def test_no_rank(self):
        for world, count in ((meeting_world(), 54), (World(Web(["m"]), {"ann": ("m",)}), 1)):
            for number in (count, count + 1, 10 ** 30 - 1):
                self.refused(NoRank, {"number": number, "limit": count}, world_of_rank, world, number)
            world_of_rank(world, count - 1)

    def test_great_ranks(self):
        plans = {name: tuple("abcdef"[(at * step) % 7 % 6] for step in range(7)) for at, name in enumerate("uvwxyz")}
        world = World(Web.full(list("abcdef")), plans)
        count = class_count(world)
        for rank in (0, 1, count // 3, count - 2, count - 1):
            self.same(rank_of(world_of_rank(world, rank)), rank)
        self.refused(NoRank, {"number": count, "limit": count}, world_of_rank, world, count)

    def test_wrong_numbers(self):
        for number in NO_NUMBERS:
            self.misshapen("number", world_of_rank, meeting_world(), number)
            self.misshapen("number", walk_numbers, listed_world(False), number)
        for number in (9, 10, 10 ** 30 - 1):
            self.misshapen("number", walk_numbers, example()[0], number)
            self.misshapen("number", walk_numbers, listed_world(False), number)


class ListsTest(Case):
    def test_class_worlds(self):
        for world in some_worlds()[::3]:
            found = class_worlds(world=world)
            self.same([rank_of(one) for one in found], list(range(class_count(world))))
            self.same([one.rows for one in found], [world_of_rank(world, rank).rows for rank in range(len(found))])

    def test_the_limit_of_lists(self):
        begin = time.perf_counter()
        found = class_worlds(listed_world(False))
        self.same([len(found), len({one.rows for one in found})], [400, 400])
        self.same([rank_of(one) for one in found], list(range(400)))
        self.assertLess(time.perf_counter() - begin, 20)
        self.same(class_count(listed_world(True)), 405)
        self.refused(TooMany, {"what": "worlds", "number": 405}, class_worlds, listed_world(True))
        count = class_count(full_world(6))
        self.refused(TooMany, {"what": "worlds", "number": count}, class_worlds, full_world(6))


class SmallClassesTest(Case):
    def test_small_classes(self):
        self.same([class_count(week_world()), deed_count(week_world())], [36, 20])
        self.assertIs(check_small(world=week_world()), None)
        self.assertIs(check_small(World(Web(["m"]), {"ann": ("m",)})), None)
        self.assertIs(check_small(same_plans((("m", "p"), 5))), None)

    def test_too_many_worlds_go_ahead_of_too_many_deeds(self):
        self.same([class_count(forty_world()), deed_count(forty_world())], [40, 21])
        same = same_plans((("m", "p", "p"), 5))
        self.same([class_count(same), deed_count(same)], [1, 30])
        halves = same_plans((("m", "p"), 3), (("m", "q"), 3))
        self.same([class_count(halves), deed_count(halves)], [20, 21])
        self.same([class_count(meeting_world()), deed_count(meeting_world())], [54, 10])
        for call in (check_small, deed_graph, distances, lambda one: walk_numbers(one, 0),
                     lambda one: between(one, one)):
            self.refused(TooMany, {"what": "worlds", "number": 40}, call, forty_world())
            self.refused(TooMany, {"what": "worlds", "number": 54}, call, meeting_world())
            self.refused(TooMany, {"what": "worlds", "number": 400}, call, listed_world(False))
            self.refused(TooMany, {"what": "deeds", "number": 21}, call, halves)
            self.refused(TooMany, {"what": "deeds", "number": 30}, call, same)
            call(week_world())

    def test_fitting_deeds_are_as_many_in_all_worlds(self):
        for world in small_classes():
            self.same(len({deed_count(one) for one in class_worlds(world)}), 1)

    def test_deed_graph(self):
        for world in small_classes():
            graph = deed_graph(world=world)
            worlds = class_worlds(world)
            self.same(len(graph), len(worlds))
            for one, entry in zip(worlds, graph):
                made = {tuple(sorted(plain_done(one.plans, deed).items())) for deed in plain_deeds(one.plans)}
                self.same(entry, [rank for rank, other in enumerate(worlds) if other.rows in made])
                idle = any(done(one, deed) == one for deed in plain_deeds(one.plans))
                self.same(worlds.index(one) in entry, idle)

    def test_graphs_of_one_world(self):
        self.same(deed_graph(World(Web(["m"]), {"ann": ("m",)})), [[]])
        self.same(deed_graph(same_plans((("m",), 2))), [[0]])
        self.same(distances(same_plans((("m",), 2))), [0])
        self.same([walk_numbers(same_plans((("m",), 3)), number) for number in range(4)], [[1], [3], [9], [27]])

    def test_distances(self):
        for world in small_classes():
            found = reached(world)
            self.same(distances(world=world), [found[one.rows] for one in class_worlds(world)])

    def test_walk_numbers(self):
        for world in small_classes()[::2] + [week_world()]:
            worlds = [one.rows for one in class_worlds(world)]
            walks = {world.rows: 1}
            for number in range(9):
                wanted = [walks.get(rows, 0) for rows in worlds]
                self.same(walk_numbers(world=world, number=number), wanted)
                self.same(sum(wanted), deed_count(world) ** number)
                later = {}
                for rows, ways in walks.items():
                    for deed in plain_deeds(dict(rows)):
                        made = tuple(sorted(plain_done(dict(rows), deed).items()))
                        later[made] = later.get(made, 0) + ways
                walks = later

    def test_walk_numbers_in_both_directions(self):
        world = week_world()
        worlds = class_worlds(world)
        rows = [walk_numbers(one, 3) for one in worlds]
        for at, other in itertools.product(range(36), repeat=2):
            self.same(rows[at][other], rows[other][at])

    def test_between(self):
        for world in small_classes():
            worlds = class_worlds(world)
            there = reached(world)
            for target in worlds[::3]:
                home = reached(target)
                wanted = [rank for rank, one in enumerate(worlds)
                          if there[one.rows] + home[one.rows] == there[target.rows]]
                self.same(between(world=world, target=target), wanted)
                self.same(between(target, world), wanted)
                self.assertLessEqual({rank_of(world), rank_of(target)}, set(wanted))
            self.same(between(world, world), [rank_of(world)])

    def test_between_needs_one_class(self):
        world = forty_world()
        fewer = World(world.web, {"a": ("m",)})
        other = World(world.web, {**world.plans, "b": ("q",)})
        self.refused(UnlikeFrames, {"part": "web"}, between, world, World(Web(["m"]), {"a": ("m",)}))
        self.refused(UnlikeFrames, {"part": "travellers"}, between, world, fewer)
        self.refused(UnlikeClasses, {"paper": ("start", "b", "m", "q")}, between, world, other)
        other = World(world.web, {**world.plans, "b": ("m",)})
        self.refused(UnlikeClasses, {"paper": ("leg", (0, "m", "-"), 0, 1)}, between, world, other)

    def test_never_maps_or_pairs(self):
        world = same_plans((("m", "p"), 5), (("q", "q", "q"), 1))
        self.same([distances(world), walk_numbers(world, 1), between(world, world), deed_graph(world)],
                  [[0], [20], [0], [[0]]])

    def test_in_good_time_at_the_limit(self):
        begin = time.perf_counter()
        world = week_world()
        self.same([len(deed_graph(world)), sum(walk_numbers(world, 8))], [36, 20 ** 8])
        self.same(len(between(world, world_of_rank(world, 35))) > 1, True)
        self.assertLess(time.perf_counter() - begin, 20)


class NothingChangesTest(Case):
    def test_what_is_passed_and_returned(self):
        world = example()[0]
        for call in (lambda: crossing_counts(world), lambda: distances(world), lambda: walk_numbers(world, 2),
                     lambda: between(world, example()[1]), lambda: deed_graph(world)):
            wanted = repr(call())
            call().clear()
            self.same(repr(call()), wanted)
        wanted = repr(deed_graph(world))
        deed_graph(world)[3].clear()
        self.same(repr(deed_graph(world)), wanted)
        class_worlds(world).clear()
        self.same(len(class_worlds(world)), 24)
        self.same(world.rows, example()[0].rows)


if __name__ == "__main__":
    unittest.main()
