"""Webs: points 3, 5, 8 and 15, and the interface of crossfarers/worlds.py."""

import itertools
import unittest

from crossfarers.bags import Bag
from crossfarers.errors import Repeated, SameTown, UnknownTown
from crossfarers.worlds import Web, World
from tests.helpers import Case

EIGHT = ["h", "b", "a", "d", "c", "f", "e", "g"]
NO_NAMES = (None, True, 1, "", "-", "A", "a b", "abcdefghi", ["m"], ("m",), {"m": 1}, [], (), {})
NO_SERIES = (None, True, False, 0, 1, "", "m", "mp", {}, {"m": "p"}, b"m")


class WebsTest(Case):
    def test_towns_and_ways_are_ascending(self):
        web = Web(["q", "m", "p"], [("q", "m"), ("m", "p")])
        self.same(web.towns, ("m", "p", "q"))
        self.same(web.ways, (("m", "p"), ("m", "q")))
        self.same(list(web), ["m", "p", "q"])

    def test_tuples_are_good_too(self):
        web = Web(("q", "m", "p"), (("q", "m"), ("m", "p")))
        self.same([web.towns, web.ways], [("m", "p", "q"), (("m", "p"), ("m", "q"))])

    def test_by_name(self):
        web = Web(towns=["m", "p"], ways=[("p", "m")])
        self.same([web.towns, web.ways], [("m", "p"), (("m", "p"),)])

    def test_ways_left_out(self):
        for web in (Web(["p", "m"]), Web(["p", "m"], []), Web(["p", "m"], ())):
            self.same([web.towns, web.ways], [("m", "p"), ()])
            self.same([web.joins("m", "p"), web.joins("m", "m")], [False, True])

    def test_one_and_eight_towns(self):
        self.same([Web(["m"]).towns, Web(["m"]).ways], [("m",), ()])
        self.same(Web(EIGHT).towns, tuple(sorted(EIGHT)))
        self.misshapen("towns", Web, [])
        self.misshapen("towns", Web, ())
        self.misshapen("towns", Web, EIGHT + ["i"])

    def test_too_many_towns_are_refused_before_repeated_ones(self):
        self.misshapen("towns", Web, EIGHT + ["a"])

    def test_wrong_towns(self):
        for value in NO_SERIES:
            self.misshapen("towns", Web, value)
            self.misshapen("towns", Web.full, value)
            self.misshapen("towns", Web.chain, value)
        for value in NO_NAMES:
            for towns in ([value], ["m", value], (value, "m"), ["m", "m", value]):
                self.misshapen("towns", Web, towns)
                self.misshapen("towns", Web.full, towns)
                self.misshapen("towns", Web.chain, towns)

    def test_wrong_ways(self):
        for value in NO_SERIES:
            self.misshapen("ways", Web, ["m", "p"], value)
        for way in (["m", "p"], ("m",), ("m", "p", "q"), (), "mp", None, 1, {"m": "p"}, ("m", "-"), (["m"], "p"),
                    ("m", ["p"]), (None, "p"), ("m", None), ("m", 1), ("m", "abcdefghi"), (("m", "p"),), ({}, "m")):
            self.misshapen("ways", Web, ["m", "p"], [way])
            self.misshapen("ways", Web, ["m", "p"], [("x", "y"), way])
            self.misshapen("ways", Web, ["m", "p"], (way, ("m", "p")))

    def test_towns_are_checked_before_ways(self):
        self.misshapen("towns", Web, ["-"], None)
        self.misshapen("ways", Web, ["m", "m"], [None])

    def test_repeated_towns(self):
        self.refused(Repeated, {"thing": "m"}, Web, ["m", "m"])
        self.refused(Repeated, {"thing": "p"}, Web, ["m", "p", "p", "m"])
        self.refused(Repeated, {"thing": "m"}, Web, ("p", "m", "m", "p"))
        self.refused(Repeated, {"thing": "m"}, Web, ["m", "p", "m"], [("x", "x")])

    def test_unknown_towns_of_ways(self):
        towns = ["m", "p", "q"]
        self.refused(UnknownTown, {"town": "x"}, Web, towns, [("x", "y")])
        self.refused(UnknownTown, {"town": "y"}, Web, towns, [("m", "y")])
        self.refused(UnknownTown, {"town": "a"}, Web, towns, [("m", "a")])
        self.refused(UnknownTown, {"town": "x"}, Web, towns, [("x", "x")])
        self.refused(UnknownTown, {"town": "y"}, Web, towns, [("m", "p"), ("y", "a"), ("a", "a")])

    def test_ways_are_looked_at_one_after_the_other(self):
        towns = ["m", "p", "q"]
        self.refused(SameTown, {"town": "p"}, Web, towns, [("p", "p"), ("x", "m")])
        self.refused(UnknownTown, {"town": "x"}, Web, towns, [("x", "m"), ("p", "p")])
        self.refused(Repeated, {"thing": ("m", "p")}, Web, towns, [("m", "p"), ("p", "m"), ("x", "x")])
        self.refused(SameTown, {"town": "q"}, Web, towns, [("m", "p"), ("q", "q"), ("m", "p")])

    def test_repeated_ways(self):
        towns = ["m", "p", "q"]
        for first, second in itertools.product([("m", "p"), ("p", "m")], repeat=2):
            self.refused(Repeated, {"thing": ("m", "p")}, Web, towns, [first, second])
            self.refused(Repeated, {"thing": ("m", "p")}, Web, towns, [("q", "p"), first, second, ("p", "q")])

    def test_joins(self):
        web = Web(["m", "p", "q"], [("q", "m")])
        for here in web:
            for there in web:
                wanted = here == there or {here, there} == {"m", "q"}
                self.assertIs(web.joins(here, there), wanted)

    def test_joins_refuses(self):
        web = Web(["m", "p"])
        self.refused(UnknownTown, {"town": "x"}, web.joins, "x", "y")
        self.refused(UnknownTown, {"town": "y"}, web.joins, "m", "y")
        self.refused(UnknownTown, {"town": "x"}, web.joins, "x", "x")
        self.refused(UnknownTown, {"town": "z"}, web.joins, here="z", there="m")
        for value in NO_NAMES:
            self.misshapen("here", web.joins, value, "m")
            self.misshapen("here", web.joins, value, value)
            self.misshapen("there", web.joins, "m", value)
            self.misshapen("there", web.joins, "x", value)

    def test_near(self):
        web = Web(["q", "m", "p", "a"], [("q", "m"), ("m", "a"), ("q", "p")])
        self.same(web.near("m"), ("a", "m", "q"))
        self.same(web.near("q"), ("m", "p", "q"))
        self.same(web.near("p"), ("p", "q"))
        self.same(web.near("a"), ("a", "m"))
        self.same(Web(["m", "p"]).near(town="p"), ("p",))

    def test_near_refuses(self):
        web = Web(["m"])
        self.refused(UnknownTown, {"town": "p"}, web.near, "p")
        for value in NO_NAMES:
            self.misshapen("town", web.near, value)

    def test_in(self):
        web = Web(["m", "p"], [("m", "p")])
        self.same(["m" in web, "p" in web, "q" in web], [True, True, False])
        for value in (*NO_NAMES, ("m", "p"), web, World(web, {"m": ("m",)}), Bag(["m"]), [["m"]]):
            self.assertIs(value in web, False)

    def test_equality(self):
        web = Web(["m", "p", "q"], [("m", "p"), ("p", "q")])
        self.assertIs(web == Web(("q", "p", "m"), (("q", "p"), ("p", "m"))), True)
        self.assertIs(web != Web(("q", "p", "m"), (("q", "p"), ("p", "m"))), False)
        self.assertIs(web == Web(["m", "p", "q"], [("m", "p"), ("m", "q")]), False)
        self.assertIs(web == Web(["m", "p", "q"], [("m", "p")]), False)
        self.assertIs(web == Web(["m", "p", "q", "r"], [("m", "p"), ("p", "q")]), False)
        self.assertIs(Web(["m"]) == Web(["p"]), False)
        self.assertIs(Web(["m"]) != Web(["p"]), True)

    def test_equality_with_what_is_no_web(self):
        web = Web(["m"])
        for value in (None, True, 0, "m", ["m"], ("m",), {"m": ()}, {"m": ("m",)}, World(web, {"m": ("m",)}), Bag()):
            self.assertIs(web == value, False)
            self.assertIs(web != value, True)

    def test_full(self):
        self.same(Web.full(["m"]).ways, ())
        self.same(Web.full(["q", "m", "p"]).ways, (("m", "p"), ("m", "q"), ("p", "q")))
        self.same(Web.full(("p", "m")).towns, ("m", "p"))
        web = Web.full(EIGHT)
        self.same(web.ways, tuple(itertools.combinations(sorted(EIGHT), 2)))
        self.assertTrue(all(web.near(town) == web.towns for town in web))
        self.assertIs(web.__class__, Web)
        self.same(Web.full(towns=["p", "m"]).ways, (("m", "p"),))

    def test_chain(self):
        self.same(Web.chain(["m"]).ways, ())
        self.same(Web.chain(["q", "m", "p"]).ways, (("m", "p"), ("m", "q")))
        self.same(Web.chain(("q", "m", "p")).towns, ("m", "p", "q"))
        self.same(Web.chain(EIGHT).ways, (("a", "b"), ("a", "d"), ("b", "h"), ("c", "d"), ("c", "f"), ("e", "f"),
                                         ("e", "g")))
        self.assertIs(Web.chain(["m"]).__class__, Web)
        self.same(Web.chain(towns=["p", "m"]).ways, (("m", "p"),))

    def test_full_and_chain_refuse(self):
        for made in (Web.full, Web.chain):
            self.refused(Repeated, {"thing": "p"}, made, ["m", "p", "p", "m"])
            self.refused(Repeated, {"thing": "m"}, made, ("m", "p", "m"))
            self.refused(Repeated, {"thing": "m"}, made, ["m", "m"])
            self.misshapen("towns", made, [])
            self.misshapen("towns", made, EIGHT + ["i"])

    def test_what_was_passed_is_not_kept_or_changed(self):
        towns, ways = ["p", "m"], [("p", "m")]
        web = Web(towns, ways)
        self.same([towns, ways], [["p", "m"], [("p", "m")]])
        towns.append("q")
        ways.clear()
        self.same([web.towns, web.ways, web.near("m"), "q" in web],
                  [("m", "p"), (("m", "p"),), ("m", "p"), False])
        towns = ["p", "m"]
        webs = [Web.full(towns), Web.chain(towns)]
        towns.clear()
        for web in webs:
            self.same([web.towns, web.ways], [("m", "p"), (("m", "p"),)])


if __name__ == "__main__":
    unittest.main()
