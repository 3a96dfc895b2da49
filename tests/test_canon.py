"""Profiles, town orders, canonical tables and pairings: points 77 to 79, and crossfarers/canon.py."""

import itertools
import time
import unittest

from crossfarers.bags import Bag
from crossfarers.canon import (
    canonical_order, canonical_table, is_town_pairing, profile, town_orders, town_pairing, traveller_pairing,
)
from crossfarers.changes import renamed
from crossfarers.errors import TooMany, UnknownTown
from crossfarers.ledgers import ledger_of, standing
from crossfarers.worlds import Web, World
from tests.helpers import Case
from tests.samples import NO_NAMES, example, full_world, meeting_world, small_worlds

NO_PAIRINGS = (
    None, True, 0, "", (), {}, [None], ["mp"], [("m",)], [("m", "m", "m")], [["m", "m"]], [("m", 1)], [("m", None)],
    [("m", ["m"])], [("-", "-")], [("A", "m")], (("m", "m"), ("p", "p")), {"m": "m", "p": "p"},
    [("m", "m"), ["p", "p"]], [("m", "m"), ("p", "p"), None],
)


def lone_towns(many):
    """Return a world of this many travellers, each alone in a town of its own."""
    towns = "abcdefgh"[:many]
    return World(Web(list(towns)), {name: (town,) for name, town in zip("uvwxyz", towns)})


def eight_towns():
    """Return a world with eight visited towns and 24 town orders."""
    rows = ("abgghga", "acgghag", "adgahgg", "aeghagg", "afhaghh", "afhhagh")
    return World(Web.full(list("abcdefgh")), {name: tuple(row) for name, row in zip("uvwxyz", rows)})


def plain_profile(world, town):
    """Return how many travellers stand in the town on each day."""
    return tuple(sum(plan[day:day + 1] == (town,) for _, plan in world) for day in range(7))


def plain_orders(world):
    """Return all town orders, found among all orders of the visited towns."""
    towns = [town for town in world.web if any(plain_profile(world, town))]
    profiles = {town: plain_profile(world, town) for town in towns}
    return [order for order in itertools.permutations(towns)
            if all(profiles[here] >= profiles[there] for here, there in zip(order, order[1:]))]


def plain_table(world, order):
    """Return the numbered ledger of the order."""
    numbers = {**{town: at for at, town in enumerate(order)}, "-": -1}
    return sorted((day, numbers[here], numbers[there], number) for (day, here, there), number in ledger_of(world))


def plain_pairings(world, other):
    """Return all town pairings, found among all ways to pair the visited towns."""
    first, second = ([town for town in one.web if any(plain_profile(one, town))] for one in (world, other))
    if len(first) != len(second):
        return []
    wanted = sorted(ledger_of(other).things())
    found = []
    for row in itertools.permutations(second):
        partners = {**dict(zip(first, row)), "-": "-"}
        legs = [(day, partners[here], partners[there]) for day, here, there in ledger_of(world).things()]
        if sorted(legs) == wanted:
            found.append(list(zip(first, row)))
    return found


def some_worlds():
    """Return worlds with few towns."""
    return [meeting_world(), World(Web(["m"]), {"ann": ("m",)}), lone_towns(3), lone_towns(4), *small_worlds(2)[::9],
            *small_worlds(2, 1, "mpq")[::5]]


class ProfilesTest(Case):
    def test_profiles(self):
        world = meeting_world()
        self.same(profile(world=world, town="m"), (3, 1, 0, 0, 0, 0, 0))
        self.same(profile(world, "p"), (0, 3, 0, 0, 0, 0, 0))
        self.same(profile(world, "q"), (2, 0, 3, 1, 0, 0, 0))
        self.same(profile(world, "r"), (0, 0, 0, 0, 0, 0, 0))
        week = World(Web.full(["m", "p"]), {"ann": ("m",) * 6 + ("p",), "bob": ("p",) * 7})
        self.same([profile(week, "m"), profile(week, "p")], [(1, 1, 1, 1, 1, 1, 0), (1, 1, 1, 1, 1, 1, 2)])
        for one in some_worlds():
            for town in one.web:
                self.same(profile(one, town), tuple(len(standing(one, (day, town))) for day in range(7)))

    def test_errors(self):
        world = meeting_world()
        for town in NO_NAMES:
            self.misshapen("town", profile, world, town)
        self.refused(UnknownTown, {"town": "x"}, profile, world, "x")
        self.refused(UnknownTown, {"town": "ann"}, profile, world, "ann")


class OrdersTest(Case):
    def test_orders(self):
        self.same(town_orders(world=meeting_world()), [("m", "q", "p")])
        self.same(town_orders(World(Web(["m", "p"]), {"ann": ("p",)})), [("p",)])
        self.same(town_orders(lone_towns(2)), [("a", "b"), ("b", "a")])
        for world in some_worlds():
            self.same(town_orders(world), plain_orders(world))

    def test_groups(self):
        plans = {"ann": ("z", "b"), "bob": ("y", "a"), "cat": ("x",)}
        world = World(Web.full(list("abxyz")), plans)
        self.same(town_orders(world), [tuple(first + second) for first in map("".join, itertools.permutations("xyz"))
                                       for second in ("ab", "ba")])

    def test_the_limit(self):
        self.same(len(town_orders(lone_towns(4))), 24)
        self.same(town_orders(lone_towns(4))[-1], ("d", "c", "b", "a"))
        pairs = World(Web.full(list("abcdef")), {name: tuple(row) for name, row in zip(
            "uvwxyz", ("ae", "bf", "ce", "cf", "de", "df"))})
        self.same(len(town_orders(pairs)), 8)
        for call in (town_orders, canonical_table, canonical_order, lambda one: town_pairing(one, one)):
            self.refused(TooMany, {"what": "orders", "number": 120}, call, lone_towns(5))
            self.refused(TooMany, {"what": "orders", "number": 720}, call, lone_towns(6))
            call(lone_towns(4))
        three = World(Web.full(list("abcdefg")), {name: tuple(row) for name, row in zip(
            "uvwxyz", ("ad", "be", "cf", "ad", "be", "cf"))})
        self.refused(TooMany, {"what": "orders", "number": 36}, town_orders, three)
        self.same(canonical_table(lone_towns(4)), [(0, at, -1, 1) for at in range(4)])
        self.same(town_orders(eight_towns()), plain_orders(eight_towns()))
        self.same(len(town_orders(eight_towns())), 24)

    def test_beyond_the_limit(self):
        more = World(Web.full(list("abcdefg")), {name: tuple(row) for name, row in zip(
            "uvwxyz", ("abf", "acg", "ad", "ae", "a", "a"))})
        self.same(len(plain_orders(more)), 48)
        for world in (more, example()[0]):
            self.refused(TooMany, {"what": "orders", "number": 48}, town_orders, world)
            self.refused(TooMany, {"what": "orders", "number": 48}, canonical_order, world)


class CanonicalTest(Case):
    def test_a_table(self):
        self.same(canonical_table(meeting_world()), [
            (0, 0, 0, 1), (0, 0, 2, 2), (0, 1, -1, 1), (0, 1, 2, 1), (1, 0, 1, 1), (1, 2, -1, 1), (1, 2, 1, 2),
            (2, 1, -1, 2), (2, 1, 1, 1), (3, 1, -1, 1)])
        self.same(canonical_order(meeting_world()), ("m", "q", "p"))

    def test_the_least_over_all_orders(self):
        plans = {"ann": ("a", "a"), "bob": ("b", "a", "b"), "cat": ("c", "b")}
        for world in [*some_worlds(), World(Web.full(list("abc")), plans),
                      World(Web.full(list("mpqr")), {"ann": ("p", "m", "q"), "bob": ("m", "p", "r")})]:
            orders = plain_orders(world)
            tables = [plain_table(world, order) for order in orders]
            self.same(canonical_table(world=world), min(tables))
            self.same(canonical_order(world=world), orders[tables.index(min(tables))])

    def test_webs_and_names_mean_nothing(self):
        world = meeting_world()
        wider = World(Web.full(list("ampqr")), world.plans)
        named = renamed(world, travellers=[("ann", "zoe"), ("bob", "ann")])
        towns = renamed(world, towns=[("m", "z"), ("q", "m")])
        for one in (wider, named, towns):
            self.same(canonical_table(one), canonical_table(world))
        self.same(canonical_order(towns), ("z", "m", "p"))


class TownPairingTest(Case):
    def test_pairings(self):
        world = meeting_world()
        towns = renamed(world, towns=[("m", "z"), ("q", "a")], travellers=[("ann", "zoe")])
        self.same(town_pairing(world=world, other=towns), [("m", "z"), ("p", "p"), ("q", "a")])
        self.same(town_pairing(towns, world), [("a", "q"), ("p", "p"), ("z", "m")])
        self.same(town_pairing(world, world), [("m", "m"), ("p", "p"), ("q", "q")])
        self.assertIs(town_pairing(world, lone_towns(3)), None)
        self.same(town_pairing(lone_towns(2), renamed(lone_towns(2), towns=[("a", "z")])), [("a", "b"), ("b", "z")])

    def test_against_all_pairings(self):
        worlds = some_worlds()
        for world, other in itertools.product(worlds[::2], worlds):
            pairings = plain_pairings(world, other)
            found = town_pairing(world, other)
            self.same(found is None, not pairings)
            if found is not None:
                self.assertIn(found, pairings)
                partners = dict(zip(canonical_order(world), canonical_order(other)))
                self.same(found, sorted(partners.items()))
            for pairing in pairings:
                self.assertIs(is_town_pairing(world=world, other=other, paper=pairing), True)
            self.same(canonical_table(world) == canonical_table(other), bool(pairings))

    def test_all_ways_to_pair(self):
        for world, other in ((lone_towns(3), lone_towns(3)), (meeting_world(), meeting_world()),
                             (example()[0], example()[1])):
            pairings = plain_pairings(world, other)
            self.assertTrue(pairings)
            first = [pair[0] for pair in pairings[0]]
            second = sorted(pair[1] for pair in pairings[0])
            for row in itertools.islice(itertools.permutations(second), 800):
                paper = list(zip(first, row))
                self.same(is_town_pairing(world, other, paper), paper in pairings)

    def test_unlike_webs_and_numbers_of_travellers(self):
        world = World(Web.full(["m", "p"]), {"ann": ("m", "p"), "bob": ("m", "p")})
        other = World(Web.chain(["a", "b", "c"]), {"cat": ("c", "b"), "dan": ("c", "b")})
        self.same(town_pairing(world, other), [("m", "c"), ("p", "b")])
        self.assertIs(is_town_pairing(world, other, [("m", "c"), ("p", "b")]), True)
        single = World(Web(["m", "p"], [("m", "p")]), {"ann": ("m", "p")})
        self.assertIs(town_pairing(world, single), None)
        self.assertIs(is_town_pairing(world, single, [("m", "m"), ("p", "p")]), False)

    def test_two_towns_are_never_paired_with_one(self):
        world, other = lone_towns(2), World(Web(["c"]), {"x": ("c",), "y": ("c",)})
        self.assertIs(is_town_pairing(world, other, [("a", "c"), ("b", "c")]), False)
        self.assertIs(is_town_pairing(other, world, [("c", "a"), ("c", "b")]), False)
        self.assertIs(town_pairing(world, other), None)

    def test_too_many_for_the_first_then_the_second(self):
        plain = meeting_world()
        self.refused(TooMany, {"what": "orders", "number": 120}, town_pairing, lone_towns(5), lone_towns(6))
        self.refused(TooMany, {"what": "orders", "number": 720}, town_pairing, lone_towns(6), lone_towns(5))
        self.refused(TooMany, {"what": "orders", "number": 120}, town_pairing, plain, lone_towns(5))
        self.refused(TooMany, {"what": "orders", "number": 720}, town_pairing, lone_towns(6), plain)

    def test_the_judge_has_no_limit(self):
        for many in (5, 6):
            world = lone_towns(many)
            towns = "abcdef"[:many]
            self.assertIs(is_town_pairing(world, world, list(zip(towns, towns[::-1]))), True)
            self.assertIs(is_town_pairing(world, world, list(zip(towns, towns))), True)
            self.assertIs(is_town_pairing(world, world, list(zip(towns, "a" + towns[:-1]))), False)
            self.assertIs(is_town_pairing(world, world, list(zip(towns, towns))[:-1]), False)

    def test_bent_pairings(self):
        world = meeting_world()
        other = renamed(world, towns=[("m", "z")])
        right = [("m", "z"), ("p", "p"), ("q", "q")]
        self.assertIs(is_town_pairing(world, other, right), True)
        self.assertIs(is_town_pairing(other, world, right), False)
        for paper in (*NO_PAIRINGS, [], right[:2], right[::-1], [right[1], right[0], right[2]], right + [("r", "r")],
                      right + [("q", "q")], [("m", "z"), ("p", "q"), ("q", "p")], [("m", "m"), ("p", "p"), ("q", "q")],
                      [("m", "z"), ("p", "p"), ("q", "p")], [("m", "z"), ("p", "p"), ("r", "q")],
                      [("m", "z"), ("p", "p"), ("q", "r")], [("m", "x"), ("p", "p"), ("q", "q")], tuple(right),
                      [list(pair) for pair in right], dict(right), world, Bag(right),
                      [("m", "z"), ("p", "p"), ("q", "q"), ("-", "-")]):
            self.assertIs(is_town_pairing(world, other, paper), False)


class TravellerPairingTest(Case):
    def test_pairings(self):
        web = Web.full(["m", "p"])
        world = World(web, {"ann": ("p",), "bob": ("m",), "cat": ("p",), "dan": ("m", "p")})
        other = World(Web.chain(["p", "m", "q"]), {"x": ("p",), "y": ("m", "p"), "w": ("p",), "z": ("m",)})
        self.same(traveller_pairing(world=world, other=other), [("ann", "w"), ("bob", "z"), ("cat", "x"), ("dan", "y")])
        self.same(traveller_pairing(other, world), [("w", "ann"), ("x", "cat"), ("y", "dan"), ("z", "bob")])
        self.same(traveller_pairing(world, world), [(name, name) for name in world.names])

    def test_the_least_of_all(self):
        worlds = small_worlds(3, 1)[::3]
        for world, other in itertools.product(worlds[::7], worlds):
            pairings = [list(zip(world.names, row)) for row in itertools.permutations(other.names)
                        if all(world[name] == other[there] for name, there in zip(world.names, row))]
            self.same(traveller_pairing(world, other), min(pairings) if pairings else None)

    def test_none(self):
        world = World(Web.full(["m", "p"]), {"ann": ("m",), "bob": ("m",)})
        for plans in ({"ann": ("m",)}, {"ann": ("m",), "bob": ("p",)}, {"ann": ("m",), "bob": ("m",), "cat": ("m",)},
                      {"ann": ("m",), "bob": ("m", "m")}):
            self.assertIs(traveller_pairing(world, World(world.web, plans)), None)
            self.assertIs(traveller_pairing(World(world.web, plans), world), None)
        self.same(traveller_pairing(lone_towns(6), lone_towns(6))[-1], ("z", "z"))


class NothingChangesTest(Case):
    def test_what_is_passed_and_returned(self):
        world, other = meeting_world(), renamed(meeting_world(), towns=[("m", "z")])
        paper = town_pairing(world, other)
        passed = repr([world.rows, other.rows, paper])
        for call in (lambda: town_orders(world), lambda: canonical_table(world), lambda: town_pairing(world, other),
                     lambda: traveller_pairing(world, world)):
            wanted = repr(call())
            call().clear()
            self.same(repr(call()), wanted)
        is_town_pairing(world, other, paper)
        self.same(repr([world.rows, other.rows, paper]), passed)

    def test_in_good_time_at_the_limits(self):
        begin = time.perf_counter()
        for world in (full_world(6), lone_towns(4), eight_towns()):
            self.same(town_pairing(world, world), [(town, town) for town in sorted(canonical_order(world))])
            self.assertIs(is_town_pairing(world, world, town_pairing(world, world)), True)
        self.assertLess(time.perf_counter() - begin, 10)


if __name__ == "__main__":
    unittest.main()
