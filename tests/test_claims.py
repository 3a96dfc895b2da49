"""Claims: points 41, 46 and 96, and the interface of crossfarers/claims.py."""

import time
import unittest

from crossfarers.bags import Bag
from crossfarers.claims import is_claim, judged
from crossfarers.classes import world_of_rank
from crossfarers.deeds import done
from crossfarers.errands import Errand
from crossfarers.errors import TooMany, UnlikeFrames
from crossfarers.fewest import bound_table, fewest, least_history
from crossfarers.flows import least_cut, most, most_world
from crossfarers.stretches import verdict_within
from crossfarers.verdicts import verdict
from crossfarers.wishes import grant
from crossfarers.worlds import Web, World
from tests.helpers import Case
from tests.samples import NO_HISTORIES, NO_NUMBERS, example, full_world, meeting_world, pacing_world, same_plans
from tests.test_flows import NO_CUTS, NO_GOALS, NO_TOLD
from tests.test_stretches import NO_OPEN_TOWNS
from tests.test_wishes import NO_WISHES

WORLD, TARGET = example()
ELSEWHERE = World(WORLD.web, {**WORLD.plans, "ann": ("m", "p")})
NO_CLAIMS = (
    None, True, 0, "", "class", [], (), {}, WORLD, ["class", TARGET, None], ("class",), ("class", TARGET),
    ("class", TARGET, None, None), ("within", TARGET, []), ("within", TARGET, [], None, None),
    ("fewest", TARGET, 0, []), ("fewest", TARGET, 0, [], [], []), ("grant", {}), ("grant", {}, None, None),
    ("most", [], (0, "m"), 0, WORLD), ("most", [], (0, "m"), 0, WORLD, [], 0), ("Class", TARGET, None),
    ("", TARGET, None), (None, TARGET, None), (0, TARGET, None), (["class"], TARGET, None), (TARGET, TARGET, None),
    ("verdict", TARGET, None), ("class", None, None), ("class", {}, None), ("class", TARGET.plans, None),
    ("class", TARGET.web, None), ("within", None, [], None), ("fewest", 0, 0, [], []), ("class", Bag(), None),
    ("class ", TARGET, None), (("class", TARGET, None),), {"class": TARGET}, Errand(""),
    ("fewest", [TARGET], 0, [], []),
)


def right_claims():
    """Return right claims of all kinds about WORLD."""
    number = most(WORLD, ["ann", "cat"], (1, "p"))
    return [
        ("class", TARGET, verdict(WORLD, TARGET)), ("class", ELSEWHERE, verdict(WORLD, ELSEWHERE)),
        ("class", WORLD, ("history", [])), ("within", TARGET, ["m"], verdict_within(WORLD, TARGET, ["m"])),
        ("within", TARGET, [], verdict_within(WORLD, TARGET, [])),
        ("within", ELSEWHERE, ["p", "m"], verdict_within(WORLD, ELSEWHERE, ["p", "m"])),
        ("fewest", TARGET, 3, least_history(WORLD, TARGET), bound_table(WORLD, TARGET)),
        ("fewest", WORLD, 0, [], bound_table(WORLD, WORLD)),
        ("grant", {"ann": ("m", "q", "z")}, grant(WORLD, {"ann": ("m", "q", "z")})),
        ("grant", {"ann": ("p",), "bob": ("m",)}, ("start", "ann", "p", "m")), ("grant", {}, ("world", TARGET)),
        ("grant", {"ann": ("m", "x")}, ("leg", (0, "m", "x"), 1, 0)),
        ("most", ["ann", "cat"], (1, "p"), number, most_world(WORLD, ["ann", "cat"], (1, "p")),
         least_cut(WORLD, ["ann", "cat"], (1, "p"))),
        ("most", ["bob"], (1, "q", "z"), 1, most_world(WORLD, ["bob"], (1, "q", "z")),
         least_cut(WORLD, ["bob"], (1, "q", "z"))),
        ("most", [], (0, "m"), 0, WORLD, []),
    ]


class ShapesTest(Case):
    def test_claims(self):
        for claim in right_claims():
            self.assertIs(is_claim(value=claim), True)
        for claim in (("class", TARGET, None), ("within", TARGET, None, 0), ("fewest", WORLD, None, None, None),
                      ("grant", None, None), ("most", None, None, None, None, None)):
            self.assertIs(is_claim(claim), True)
            self.assertIs(judged(WORLD, claim), False)

    def test_no_claims(self):
        for value in NO_CLAIMS:
            self.assertIs(is_claim(value), False)
            self.misshapen("claim", judged, WORLD, value)


class JudgedTest(Case):
    def bent(self, claim, at, values):
        """Check that the claim is wrong with each of the values in the place of a part."""
        for value in values:
            self.assertIs(judged(WORLD, claim[:at] + (value,) + claim[at + 1:]), False, (claim[0], at, value))

    def test_right_claims(self):
        for claim in right_claims():
            self.assertIs(judged(world=WORLD, claim=claim), True)

    def test_the_claim_of_another_target_or_paper(self):
        claims = right_claims()
        for claim in claims[:3]:
            for other in claims[:3]:
                self.same(judged(WORLD, ("class", claim[1], other[2])), claim == other)
        self.assertIs(judged(WORLD, ("class", TARGET, ("history", []))), False)
        self.assertIs(judged(TARGET, ("class", WORLD, ("history", claims[0][2][1][::-1]))), True)
        self.assertIs(judged(WORLD, ("class", TARGET, ("history", claims[0][2][1] + [("bob", "dan", 0)] * 2))), True)

    def test_class(self):
        self.bent(right_claims()[0], 2, [None, True, 0, "", [], (), {}, WORLD, ["history", []], ("history",),
                                         *[("history", history) for history in NO_HISTORIES]])

    def test_within(self):
        claim = right_claims()[3]
        self.bent(claim, 2, NO_OPEN_TOWNS)
        self.bent(claim, 2, [["m", "x"], ["x"], ["ann"], [], ["p"], ("m",), ["p", "q"]])
        self.bent(claim, 3, [None, True, 0, "", [], (), {}, WORLD, ("history", []), ("history", ()),
                             ("first", "ann", 0, 0)])
        self.assertIs(judged(WORLD, claim[:2] + (["u", "m"],) + claim[3:]), True)
        idle = claim[3][1] + [("ann", "bob", 0)] * 2
        self.assertIs(judged(WORLD, claim[:3] + (("history", idle),)), True)
        self.assertIs(judged(WORLD, claim[:3] + (("history", claim[3][1] + [("ann", "bob", 1)] * 2),)), False)

    def test_fewest(self):
        claim = right_claims()[6]
        self.bent(claim, 2, NO_NUMBERS)
        self.bent(claim, 2, [0, 1, 2, 4, 5, 10 ** 29])
        self.bent(claim, 3, NO_HISTORIES)
        self.bent(claim, 3, [[], claim[3] + [claim[3][0]] * 2, claim[3][::-1], claim[3][:2], tuple(claim[3])])
        table = claim[4]
        self.bent(claim, 4, [None, True, 0, "", [], (), {}, WORLD, tuple(table), table[:-1], [[]] * 3,
                             [[pair[0] for pair in entry] for entry in table],
                             [[(pair[0], True) for pair in entry] for entry in table]])
        self.bent(claim, 1, [ELSEWHERE, WORLD, world_of_rank(WORLD, 1)])
        longer = claim[3] + [claim[3][0]] * 2
        self.assertIs(judged(WORLD, ("fewest", TARGET, 5, longer, table)), False)
        lower = [[(pair, max(number - 1, 0)) for pair, number in entry] for entry in table]
        self.assertIs(judged(WORLD, ("fewest", TARGET, 3, claim[3], lower)), False)
        self.same(fewest(WORLD, TARGET), 3)
        one = done(WORLD, ("ann", "cat", 0))
        table = bound_table(WORLD, one)
        self.assertIs(judged(WORLD, ("fewest", one, 1, [("ann", "cat", 0)], table)), True)
        self.assertIs(judged(WORLD, ("fewest", one, True, [("ann", "cat", 0)], table)), False)
        self.assertIs(judged(WORLD, ("fewest", WORLD, False, [], bound_table(WORLD, WORLD))), False)

    def test_grant(self):
        claim = right_claims()[8]
        self.bent(claim, 1, NO_WISHES)
        self.bent(claim, 1, [{"zoe": ("m",)}, {"ann": ("m", "q", "z"), "zoe": ("m",)}, {"ann": ("m", "p", "z")},
                             {"m": ("m",)}, {"ann": ("m", "q", "z"), 1: ("m",)}, {"ann": ("m", "q", "z"), None: ("m",)},
                             {"ann": ("m", "q", "z"), ("ann", 0): ("m",)}, {"ann": ("m", "q", "z"), True: ("m",)},
                             {"A": ("m", "q", "z")}])
        self.bent(claim, 2, [None, True, 0, "", [], (), {}, WORLD, ("world", WORLD), ("world", None),
                             ["world", claim[2][1]], ("world", ELSEWHERE), ("start", "ann", "m", "m"),
                             ("leg", (0, "m", "q"), 1, 2)])
        self.assertIs(judged(WORLD, ("grant", {"ann": ("m", "x")}, ("leg", (0, "m", "x"), True, 0))), False)
        self.assertIs(judged(WORLD, ("grant", {"ann": ("m", "x")}, ("leg", (0, "m", "x"), 1, False))), False)
        self.assertIs(judged(WORLD, ("grant", {"ann": ("x",)}, ("start", "ann", "x", "m"))), True)
        self.assertIs(judged(WORLD, ("grant", {"ann": ("x",)}, ("leg", (0, "x", "-"), 1, 0))), True)

    def test_most(self):
        for claim in right_claims()[12:]:
            self.bent(claim, 1, NO_TOLD)
            self.bent(claim, 1, [[*claim[1], "zoe"], ["zoe"], tuple(claim[1]), [*claim[1], *claim[1], "ann", "ann"]])
            self.bent(claim, 2, NO_GOALS)
            self.bent(claim, 2, [(1, "x"), (1, "p", "x"), (1, "x", "p"), (6, "x", "-")])
            self.bent(claim, 3, NO_NUMBERS)
            self.bent(claim, 3, [claim[3] + 1, 7, 10 ** 29])
            self.bent(claim, 4, [None, True, 0, "", [], (), {}, WORLD.plans, WORLD.web, ELSEWHERE, meeting_world(),
                                 World(Web.full(list("mpquvwxz")), {"ann": ("m",)}),
                                 World(WORLD.web, {name: WORLD[name] for name in ("ann", "bob", "cat")}), [WORLD]])
            self.bent(claim, 5, NO_CUTS)
            self.bent(claim, 5, [[(0, "x")], [(0, "m"), (1, "x")], [(1, "x")], tuple(claim[5] + [(6, "z")])])

    def test_most_with_other_worlds_and_cuts(self):
        claim = ("most", ["ann", "cat"], (1, "p"), 2, TARGET, [])
        self.assertIs(judged(WORLD, claim), False)
        cut = [(0, "m"), (1, "q"), (2, "w"), (2, "z")]
        for rank in range(24):
            other = world_of_rank(WORLD, rank)
            many = sum(other.place(name, 1) == "p" for name in ("ann", "cat"))
            self.same(judged(WORLD, ("most", ["ann", "cat"], (1, "p"), 2, other, [])), many == 2)
            self.assertIs(judged(WORLD, ("most", ["ann", "cat"], (1, "p"), 1, other, [])), False)
            self.same(judged(WORLD, ("most", ["ann", "cat"], (1, "p"), 2, other, cut)), many == 2)
            three = ["ann", "bob", "cat"]
            many = sum(other.place(name, 1) == "p" for name in three)
            self.assertIs(judged(WORLD, ("most", three, (1, "p"), many, other, [])), False)
            self.same(judged(WORLD, ("most", three, (1, "p"), many, other, cut)), many == 2)
        self.assertIs(judged(WORLD, ("most", ["ann"], (1, "p"), 1, WORLD, [(1, "p")])), False)
        self.assertIs(judged(WORLD, ("most", ["ann"], (1, "p"), True, WORLD, [])), False)


class ErrorsTest(Case):
    def test_unlike_frames_go_ahead_of_all_others(self):
        fewer = World(WORLD.web, {name: plan for name, plan in WORLD if name != "ann"})
        wider = World(Web.full(list("mpquvwxz")), fewer.plans)
        for other, part in ((fewer, "travellers"), (wider, "web")):
            for claim in (("class", other, None), ("class", other, ("history", [])), ("within", other, None, None),
                          ("within", other, ["x"], None), ("within", other, ["A"], None),
                          ("fewest", other, None, None, None), ("fewest", other, 0, [], [])):
                self.refused(UnlikeFrames, {"part": part}, judged, WORLD, claim)
            self.assertIs(judged(WORLD, ("grant", {}, ("world", other))), False)
            self.assertIs(judged(WORLD, ("most", [], (0, "m"), 0, other, [])), False)

    def test_too_many_maps_always_where_due(self):
        world = same_plans((("m",), 5))
        for number, history, table in ((0, [], []), (None, None, None), (True, [], []), (1, [("a", "b", 0)], None),
                                       ("x", (), {}), (10 ** 29, [], [[]])):
            claim = ("fewest", world, number, history, table)
            self.refused(TooMany, {"what": "maps", "number": 120}, judged, world, claim)
        pacing = pacing_world(5)
        self.refused(TooMany, {"what": "pairs", "number": 1201}, judged, pacing, ("fewest", pacing, None, None, None))
        other = World(world.web, {**world.plans, "a": ("p",)})
        self.assertIs(judged(world, ("fewest", other, 0, [], [])), False)
        self.assertIs(judged(world, ("fewest", other, None, None, None)), False)
        self.assertIs(judged(world, ("class", world, ("history", []))), True)
        self.assertIs(judged(world, ("within", world, [], ("history", []))), True)

    def test_what_is_passed_stays(self):
        for claim in right_claims():
            passed = repr([part.rows if isinstance(part, World) else part for part in claim])
            judged(WORLD, claim)
            self.same(repr([part.rows if isinstance(part, World) else part for part in claim]), passed)

    def test_in_good_time_at_the_limits(self):
        begin = time.perf_counter()
        world = full_world(6)
        target = done(done(world, ("ann", "bob", 0)), ("cat", "dan", 0))
        for claim in (("class", target, verdict(world, target)),
                      ("within", target, list("abcd"), verdict_within(world, target, list("abcd"))),
                      ("most", list(world.names), (6, "a"), most(world, list(world.names), (6, "a")),
                       most_world(world, list(world.names), (6, "a")), least_cut(world, list(world.names), (6, "a")))):
            self.assertIs(judged(world, claim), True)
        pacing = pacing_world(4)
        self.assertIs(judged(pacing, ("fewest", pacing, 0, [], bound_table(pacing, pacing))), True)
        self.assertLess(time.perf_counter() - begin, 20)


if __name__ == "__main__":
    unittest.main()
