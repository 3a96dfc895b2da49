"""Lengths of histories: points 47 to 50, and the interface of crossfarers/lengths.py."""

import unittest

from crossfarers.changes import renamed, shifted
from crossfarers.deeds import deeds_of, is_idle, is_leading, replay
from crossfarers.errors import NoLength, TooMany, UnlikeClasses, UnlikeFrames
from crossfarers.fewest import fewest
from crossfarers.lengths import has_length, history_of_length, length_rule, lengths_upto, parity, settling_pair
from crossfarers.worlds import Web, World
from tests.helpers import Case
from tests.samples import (
    NO_NUMBERS, example, meeting_world, pacing_world, plain_deeds, plain_done, same_plans, small_worlds, some_history,
    worlds_reached,
)

HUGE = 10 ** 30 - 1


def lonely_world():
    """Return a world in which nobody meets."""
    return World(Web.full(["m", "p"]), {"ann": ("m", "p", "m"), "bob": ("p", "m", "p")})


def even_world():
    """Return a world in which three meet, and two of them go on together, but nobody settles with another one."""
    return World(Web.full(["m", "p", "q"]), {"ann": ("m", "p", "p"), "bob": ("m", "p", "q"), "cat": ("m", "q")})


def all_world():
    """Return a world in which two settle together."""
    return World(Web.full(["m", "p", "q"]), {"ann": ("m", "p"), "bob": ("m", "p"), "cat": ("m", "q")})


def crowded_world():
    """Return a world with 120 maps on day 0 in which nobody settles with another one."""
    plans = {"ann": ("m", "p"), "bob": ("m", "p", "m"), "cat": ("m", "p", "q"), "dan": ("m", "p", "r"),
             "eve": ("m", "p", "p")}
    return World(Web.full(["m", "p", "q", "r"]), plans)


def plain_rule(world):
    """Return the length rule, found by counting who settles where and who meets."""
    plans = [plan for _, plan in world]
    ends = [(len(plan), plan[-1]) for plan in plans]
    if len(set(ends)) < len(ends):
        return "all"
    return "even" if plain_deeds(world.plans) else "zero"


def reached_by(world, longest):
    """Return for each number of deeds up to the longest the set of rows of the worlds that exactly so many make."""
    waves = [{world.rows}]
    for _ in range(longest):
        waves.append({tuple(sorted(plain_done(dict(rows), deed).items())) for rows in waves[-1]
                      for deed in plain_deeds(dict(rows))})
    return waves


class RulesTest(Case):
    def test_the_three_rules(self):
        self.same(length_rule(world=lonely_world()), "zero")
        self.same([length_rule(even_world()), length_rule(all_world())], ["even", "all"])
        self.same(length_rule(World(Web(["m"]), {"ann": ("m",)})), "zero")
        self.same(length_rule(World(Web(["m"]), {"ann": ("m",), "bob": ("m",)})), "all")
        self.same(length_rule(World(Web(["m"]), {"ann": ("m",), "bob": ("m", "m")})), "even")
        self.same(length_rule(World(Web.full(["m", "p"]), {"ann": ("m",), "bob": ("p",)})), "zero")
        week = World(Web(["m"]), {"ann": ("m",) * 7, "bob": ("m",) * 6})
        self.same([length_rule(week), settling_pair(week)], ["even", None])

    def test_rules_of_small_worlds(self):
        for world in small_worlds(2) + small_worlds(3, 1):
            self.same(length_rule(world), plain_rule(world))
        for world in (meeting_world(), even_world(), all_world()):
            for other, _ in worlds_reached(world):
                self.same(length_rule(other), length_rule(world))

    def test_settling_pairs(self):
        self.same(settling_pair(world=all_world()), ("ann", "bob", 1))
        self.same([settling_pair(even_world()), settling_pair(lonely_world())], [None, None])
        web = Web.full(["m", "p", "q"])
        world = World(web, {"ann": ("m", "p", "q"), "bob": ("p", "q"), "cat": ("m", "p", "q"), "dan": ("m", "q"),
                            "eve": ("q", "p"), "fay": ("m", "p")})
        self.same(settling_pair(world), ("bob", "dan", 1))
        world = World(web, {"ann": ("m", "q"), "bob": ("m", "p"), "cat": ("m", "p"), "dan": ("m", "q")})
        self.same(settling_pair(world), ("ann", "dan", 1))
        world = World(web, {"ann": ("m", "q", "q"), "bob": ("m", "p"), "cat": ("m", "q", "q"), "dan": ("m", "p")})
        self.same(settling_pair(world), ("bob", "dan", 1))
        self.same(settling_pair(same_plans((("m",), 6))), ("a", "b", 0))
        self.same(settling_pair(same_plans((("m",) * 7, 3))), ("a", "b", 6))
        self.same(settling_pair(meeting_world()), ("bob", "dan", 2))

    def test_settling_pairs_of_small_worlds(self):
        for world in small_worlds(3, 1) + small_worlds(2):
            rows = sorted((len(plan) - 1, x, y) for x, plan in world for y, other in world
                          if x < y and len(plan) == len(other) and plan[-1] == other[-1])
            wanted = (rows[0][1], rows[0][2], rows[0][0]) if rows else None
            self.same(settling_pair(world), wanted)
            if wanted is not None:
                self.assertIs(is_idle(world, wanted), True)

    def test_behind_shifting_and_renaming(self):
        for world in (lonely_world(), even_world(), all_world()):
            for days in range(5):
                self.same(length_rule(shifted(world, days)), length_rule(world))
            self.same(length_rule(renamed(world, travellers=[("ann", "zoe")], towns=[("m", "p"), ("p", "m")])),
                      length_rule(world))


class ParityTest(Case):
    def test_parity_of_small_worlds(self):
        for world in [meeting_world(), *example()[:1], lonely_world(), even_world(), all_world(),
                      *small_worlds(3, 1)[::11]]:
            rule = length_rule(world)
            for target, number in worlds_reached(world):
                wanted = None if rule == "all" else number % 2
                self.same(parity(world=world, target=target), wanted)

    def test_parity_needs_no_search(self):
        world = crowded_world()
        self.same([parity(world, world), length_rule(world)], [0, "even"])
        for many in range(1, 12):
            history = some_history(world, many)
            self.same(parity(world, replay(world, history)), many % 2)
        for world in (same_plans((("m",) * 7, 6)), same_plans((("m", "p"), 5)), pacing_world(6)):
            self.assertIs(parity(world, world), None)
        self.same(parity(lonely_world(), lonely_world()), 0)


class LengthsTest(Case):
    def check_lengths(self, world, target, waves):
        """Check all lengths that histories of small worlds have."""
        found = [number for number, wave in enumerate(waves) if target.rows in wave]
        longest = len(waves) - 1
        self.same(lengths_upto(world=world, target=target, bound=longest), found)
        for number in range(longest + 1):
            self.same(has_length(world=world, target=target, number=number), number in found)
            if number in found:
                history = history_of_length(world=world, target=target, number=number)
                self.same(len(history), number)
                self.assertIs(is_leading(world, target, history), True)
            else:
                self.refused(NoLength, {"number": number}, history_of_length, world, target, number)

    def test_against_all_histories(self):
        for world in [lonely_world(), even_world(), all_world(), *small_worlds(2)[::7], *small_worlds(3, 1)[::19]]:
            waves = reached_by(world, 6)
            for target, _ in worlds_reached(world):
                self.check_lengths(world, target, waves)

    def test_a_greater_class(self):
        for world in (example()[0], meeting_world()):
            waves = reached_by(world, 5)
            for target, _ in worlds_reached(world)[::9]:
                self.check_lengths(world, target, waves)

    def test_numbers_of_any_size(self):
        world, target = example()
        self.same([has_length(world, target, number) for number in (59, 60, 61, HUGE, HUGE - 1, 10 ** 60)],
                  [True, False, True, True, False, False])
        world = all_world()
        self.same([has_length(world, world, number) for number in (0, 1, 60, 61, HUGE, HUGE - 1)], [True] * 6)
        world = lonely_world()
        self.same([has_length(world, world, number) for number in (0, 1, 2, 60, HUGE)], [True] + [False] * 4)

    def test_the_longest_histories(self):
        world, target = example()
        for number in (3, 5, 57, 59):
            history = history_of_length(world, target, number)
            self.same(len(history), number)
            self.assertIs(is_leading(world, target, history), True)
        world = all_world()
        target = replay(world, [("ann", "cat", 0)])
        for number in (1, 2, 3, 58, 59, 60):
            history = history_of_length(world, target, number)
            self.same(len(history), number)
            self.assertIs(is_leading(world, target, history), True)
        self.same(len(history_of_length(even_world(), even_world(), 60)), 60)

    def test_lengths_upto(self):
        world, target = example()
        self.same(lengths_upto(world, target, 60), list(range(3, 61, 2)))
        self.same([lengths_upto(world, target, bound) for bound in (0, 2, 3, 4, 5)], [[], [], [3], [3], [3, 5]])
        self.same(lengths_upto(all_world(), all_world(), 60), list(range(61)))
        self.same([lengths_upto(lonely_world(), lonely_world(), bound) for bound in (0, 60)], [[0], [0]])

    def test_no_length_and_too_many_deeds(self):
        world, target = example()
        for number in (0, 1, 2, 4, 60, 62, HUGE - 1):
            self.refused(NoLength, {"number": number}, history_of_length, world, target, number)
        for number in (61, 63, HUGE):
            self.refused(TooMany, {"what": "deeds", "number": number}, history_of_length, world, target, number)
        world = lonely_world()
        for number in (1, 60, 61, HUGE):
            self.refused(NoLength, {"number": number}, history_of_length, world, world, number)
        self.same(history_of_length(world, world, 0), [])
        world = all_world()
        for number in (61, 62, HUGE):
            self.refused(TooMany, {"what": "deeds", "number": number}, history_of_length, world, world, number)

    def test_too_many_maps_and_pairs(self):
        calls = [lambda world, other, call=call, number=number: call(world, other, number)
                 for call in (has_length, lengths_upto, history_of_length) for number in (0, 1, 60)]
        calls.extend([lambda world, other: has_length(world, other, HUGE),
                      lambda world, other: history_of_length(world, other, 61)])
        for call in calls:
            self.refused(TooMany, {"what": "maps", "number": 120}, call, crowded_world(), crowded_world())
            self.refused(TooMany, {"what": "maps", "number": 720}, call, same_plans((("m",), 6)),
                         same_plans((("m",), 6)))
            self.refused(TooMany, {"what": "pairs", "number": 1201}, call, pacing_world(5), pacing_world(5))
        self.same(lengths_upto(pacing_world(4), pacing_world(4), 2), [0, 1, 2])

    def test_one_class_is_needed(self):
        world = even_world()
        fewer = World(world.web, {"ann": ("m",)})
        other = World(world.web, {**world.plans, "ann": ("p",)})
        crowd = crowded_world()
        strange = World(crowd.web, {**crowd.plans, "ann": ("m", "m")})
        paper = ("leg", (0, "m", "m"), 0, 1)
        for call in (parity, lambda first, second: has_length(first, second, 0),
                     lambda first, second: lengths_upto(first, second, 0),
                     lambda first, second: history_of_length(first, second, 0)):
            self.refused(UnlikeFrames, {"part": "web"}, call, world, World(Web(["m"]), {"ann": ("m",)}))
            self.refused(UnlikeFrames, {"part": "travellers"}, call, world, fewer)
            self.refused(UnlikeClasses, {"paper": ("start", "ann", "m", "p")}, call, world, other)
            self.refused(UnlikeClasses, {"paper": paper}, call, crowd, strange)

    def test_wrong_shapes(self):
        world = even_world()
        fewer = World(world.web, {"ann": ("m",)})
        for number in NO_NUMBERS:
            self.misshapen("number", has_length, world, fewer, number)
            self.misshapen("number", history_of_length, world, fewer, number)
            self.misshapen("bound", lengths_upto, world, fewer, number)
        for bound in (61, 62, HUGE):
            self.misshapen("bound", lengths_upto, world, fewer, bound)

    def test_fewest_numbers_behind_shifting_and_renaming(self):
        world, target = example()
        for days in range(3):
            self.same(fewest(shifted(world, days), shifted(target, days)), 3)
        self.refused(TooMany, {"what": "pairs", "number": 1277}, fewest, shifted(world, 3), shifted(target, 3))
        world = World(Web.full(["m", "p"]), {"ann": ("m", "p"), "bob": ("m", "m"), "cat": ("p", "m", "p")})
        for target, number in worlds_reached(world):
            for days in range(5):
                self.same(fewest(shifted(world, days), shifted(target, days)), number)
            pairs = [("ann", "cat"), ("cat", "ann")]
            self.same(fewest(renamed(world, travellers=pairs), renamed(target, travellers=pairs)), number)
            pairs = [("p", "m"), ("m", "z")]
            self.same(fewest(renamed(world, towns=pairs), renamed(target, towns=pairs)), number)

    def test_what_is_passed_and_returned(self):
        world = all_world()
        for call in (lambda: lengths_upto(world, world, 9), lambda: history_of_length(world, world, 9)):
            wanted = list(call())
            call().clear()
            self.same(call(), wanted)
        self.same(world.rows, all_world().rows)
        self.same(deeds_of(world), deeds_of(all_world()))


if __name__ == "__main__":
    unittest.main()
