"""Fronts, rest books and gluing: points 67 to 71, and the interface of crossfarers/fronts.py."""

import itertools
import time
import unittest

from crossfarers.bags import Bag
from crossfarers.errors import NoWay, Unfit, UnknownTown
from crossfarers.fronts import (
    alike_behind, front_ledger, front_of, glued, rest_book, rest_ledger, telling_leg,
)
from crossfarers.ledgers import ledger_of
from crossfarers.verdicts import one_class
from crossfarers.worlds import Web
from tests.helpers import Case
from tests.samples import NO_DAYS, NO_NUMBERS, example, full_world, meeting_world, small_worlds, worlds_reached

NO_FRONTS = (
    None, True, 0, "", (), {}, [], (("ann", ("m",)),), {"ann": ("m",)}, [None], ["ann"], [("ann",)], [["ann", ("m",)]],
    [("ann", "m")], [("ann", ["m"])], [("ann", ())], [("ann", ("m",), 0)], [("A", ("m",))], [("-", ("m",))],
    [(1, ("m",))], [(["ann"], ("m",))], [("ann", ("-",))], [("ann", ("m", 1))], [("ann", ("m", ["p"]))],
    [("ann", ("m",)), ("ann", ("m",))], [("ann", ("m",)), ("ann", ("p",))], [("bob", ("m",)), ("ann", ("m",))],
    [("ann", ("m",)), None], [("ann", ("m",) * 8)], [(name, ("m",)) for name in "abcdefg"],
)
NO_REST_BOOKS = (
    None, True, 0, "", (), {}, [], [("m", ())], {("m", ()): 1}, Bag(["m"]), Bag([0]), Bag([("m",)]),
    Bag([("m", (), ())]), Bag([("m", "p")]), Bag([("-", ())]), Bag([("A", ())]), Bag([("m", ("-",))]),
    Bag([("m", ("p", "A"))]), Bag([("m", (1,))]), Bag([(0, ("p",))]), Bag([("m", (("p",),))]),
    Bag([("m", ()), ("m", ("p", "-"))]), Bag([("m", ("p",) * 7)]), Bag([(0, "m", "p")]),
)


def some_worlds():
    """Return worlds of which some travellers settle before a day, some on it, and some go on."""
    return [meeting_world(), *example(), full_world(5), *small_worlds(2)[::13], *small_worlds(3, 1)[::17]]


def plain_glued(front, day, rests, turn):
    """Return the dict of plans that point 69 tells, or None if front and rests do not fit."""
    plans = dict(front)
    towns = {towns[-1] for _, towns in front if len(towns) == day + 1} | {town for town, _ in rests}
    for town in towns:
        names = sorted(name for name, row in front if len(row) == day + 1 and row[-1] == town)
        lying = sorted(rest for here, rest in rests if here == town)
        if len(names) != len(lying):
            return None
        for at, name in enumerate(names):
            plans[name] = plans[name] + lying[(at + turn) % len(names)]
    return plans


class FrontsTest(Case):
    def test_an_example(self):
        world = meeting_world()
        self.same(front_of(world=world, day=1), [
            ("ann", ("m", "p")), ("bob", ("m", "m")), ("cat", ("m", "p")), ("dan", ("q", "p")), ("eve", ("q",))])
        self.same(list(rest_book(world=world, day=1)), [
            (("m", ("q",)), 1), (("p", ()), 1), (("p", ("q",)), 1), (("p", ("q", "q")), 1)])
        self.same(front_of(world, 0), [(name, plan[:1]) for name, plan in world])
        self.same(list(rest_book(world, 0)), [
            (("m", ("m", "q")), 1), (("m", ("p",)), 1), (("m", ("p", "q", "q")), 1), (("q", ()), 1),
            (("q", ("p", "q")), 1)])
        self.same(front_of(world, 6), list(world.rows))
        self.same(list(rest_book(world, 6)), [])

    def test_each_day(self):
        for world in some_worlds():
            for day in range(7):
                front = front_of(world, day)
                self.same([name for name, _ in front], list(world.names))
                lying = []
                for name, towns in front:
                    plan = world[name]
                    self.same(towns, tuple(plan[at] for at in range(len(plan)) if at <= day))
                    if world.place(name, day) != "-":
                        lying.append((plan[day], world.rest(name, day)))
                self.same(rest_book(world, day).things(), sorted(lying))

    def test_wrong_days(self):
        world = meeting_world()
        for day in NO_DAYS:
            self.misshapen("day", front_of, world, day)
            self.misshapen("day", rest_book, world, day)
            self.misshapen("day", front_ledger, day, None)
            self.misshapen("day", rest_ledger, day, None)
            self.misshapen("day", glued, world.web, day, None, None, turn=None)
            self.misshapen("day", telling_leg, day, None, None)
            self.misshapen("day", alike_behind, world.web, day, None, None, None)


class LedgersTest(Case):
    def test_an_example(self):
        world = meeting_world()
        self.same(list(front_ledger(day=1, front=front_of(world, 1))), [
            ((0, "m", "m"), 1), ((0, "m", "p"), 2), ((0, "q", "-"), 1), ((0, "q", "p"), 1)])
        self.same(list(rest_ledger(day=1, rests=rest_book(world, 1))), [
            ((1, "m", "q"), 1), ((1, "p", "-"), 1), ((1, "p", "q"), 2), ((2, "q", "-"), 2), ((2, "q", "q"), 1),
            ((3, "q", "-"), 1)])

    def test_they_add_up_to_the_ledger(self):
        for world in some_worlds():
            for day in range(7):
                front = front_ledger(day, front_of(world, day))
                rests = rest_ledger(day, rest_book(world, day))
                self.assertIs(front + rests == ledger_of(world), True)
                for leg, _ in rests:
                    self.assertGreaterEqual(leg[0], day)
                for leg, _ in front:
                    self.assertLess(leg[0], day)

    def test_without_any_web(self):
        self.same(list(front_ledger(3, [("ann", ("x", "y")), ("bob", ("x", "y", "z", "z"))])), [
            ((0, "x", "y"), 2), ((1, "y", "-"), 1), ((1, "y", "z"), 1), ((2, "z", "z"), 1)])
        self.same(list(front_ledger(0, [("ann", ("x",))])), [])
        self.same(list(rest_ledger(6, Bag([("x", ()), ("x", ())]))), [((6, "x", "-"), 2)])
        self.same(list(rest_ledger(0, Bag([("x", tuple("abcdef"))]))), [
            ((0, "x", "a"), 1), ((1, "a", "b"), 1), ((2, "b", "c"), 1), ((3, "c", "d"), 1), ((4, "d", "e"), 1),
            ((5, "e", "f"), 1), ((6, "f", "-"), 1)])
        self.same(list(rest_ledger(2, Bag())), [])

    def test_books_of_many_things(self):
        rests = Bag([("m", ("p",)), ("m", ()), ("p", ())] * 5)
        self.same(list(rest_ledger(2, rests)), [
            ((2, "m", "-"), 5), ((2, "m", "p"), 5), ((2, "p", "-"), 5), ((3, "p", "-"), 5)])
        great = rests
        for _ in range(60):
            great = great + great
        self.same(rest_ledger(2, great)[(2, "m", "p")], 5 * 2 ** 60)
        self.refused(Unfit, {"town": "m", "standing": 1, "rests": 10 * 2 ** 60}, glued, Web(["m"]), 2,
                     [("ann", ("m",) * 3)], great)
        self.same(telling_leg(2, great, rests), ((2, "m", "-"), 5 * 2 ** 60, 5))


class GluedTest(Case):
    def test_with_all_turns(self):
        for world in some_worlds():
            for day in range(7):
                front, rests = front_of(world, day), rest_book(world, day)
                for turn in (0, 1, 2, 3, 4, 5, 7, 11, 10 ** 29):
                    made = glued(world.web, day, front, rests, turn=turn)
                    self.same(made.plans, dict(sorted(plain_glued(front, day, rests.things(), turn).items())))
                    self.assertIs(made.web == world.web, True)
                    self.assertIs(one_class(world, made), True)
                    self.same(front_of(made, day), front)
                    self.assertIs(rest_book(made, day) == rests, True)

    def test_the_first_turn(self):
        web = Web.full(["m", "p"])
        front = [("ann", ("m",)), ("bob", ("m",)), ("cat", ("m",))]
        rests = Bag([("m", ("p",)), ("m", ()), ("m", ("m",))])
        wanted = [{"ann": ("m",), "bob": ("m", "m"), "cat": ("m", "p")},
                  {"ann": ("m", "m"), "bob": ("m", "p"), "cat": ("m",)},
                  {"ann": ("m", "p"), "bob": ("m",), "cat": ("m", "m")}]
        for turn in range(7):
            self.same(glued(web=web, day=0, front=front, rests=rests, turn=turn).plans, wanted[turn % 3])
        self.same(glued(web, 0, front, rests).plans, wanted[0])
        equal = Bag([("m", ("p",)), ("m", ("p",)), ("m", ())])
        self.same(glued(web, 0, front, equal, turn=1).plans, {"ann": ("m", "p"), "bob": ("m", "p"), "cat": ("m",)})

    def test_all_worlds_with_this_front_and_book(self):
        for world in (meeting_world(), example()[0]):
            for day in range(3):
                front, rests = front_of(world, day), rest_book(world, day)
                made = glued(world.web, day, front, rests)
                reached = [one.rows for one, _ in worlds_reached(made)]
                self.assertIn(world.rows, reached)
                for one, _ in worlds_reached(world):
                    if front_of(one, day) == front and rest_book(one, day) == rests:
                        self.assertIs(one_class(one, made), True)

    def test_all_have_settled(self):
        web = Web(["m"])
        self.same(glued(web, 3, [("ann", ("m",)), ("bob", ("m", "m"))], Bag(), turn=2).plans,
                  {"ann": ("m",), "bob": ("m", "m")})

    def test_unfit(self):
        web = Web(["m", "p", "q"])
        front = [("ann", ("m", "m")), ("bob", ("p", "p")), ("cat", ("q",))]
        for rests, town, standing, lying in (
                (Bag(), "m", 1, 0), (Bag([("m", ())]), "p", 1, 0), (Bag([("m", ()), ("m", ("m",))]), "m", 1, 2),
                (Bag([("m", ()), ("p", ()), ("q", ())]), "q", 0, 1), (Bag([("a", ()), ("m", ())]), "a", 0, 1),
                (Bag([("m", ()), ("p", ()), ("z", ())] * 2), "m", 1, 2), (Bag([("p", ())] * 3), "m", 1, 0),
                (Bag([("m", ()), ("p", ()), ("zz", ()), ("zz", ("m",))]), "zz", 0, 2)):
            self.refused(Unfit, {"town": town, "standing": standing, "rests": lying}, glued, web, 1, front, rests)
            fitting = Bag([("m", ()), ("p", ())])
            self.refused(Unfit, {"town": town, "standing": standing, "rests": lying}, alike_behind, web, 1, front,
                         fitting, rests)
            self.refused(Unfit, {"town": town, "standing": standing, "rests": lying}, alike_behind, web, 1, front,
                         rests, Bag([("a", ())]))

    def test_the_errors_of_worlds_stand_behind(self):
        web = Web(["m", "p", "q"], [("m", "p")])
        unknown = [("ann", ("m", "x")), ("bob", ("z", "q"))]
        self.refused(Unfit, {"town": "q", "standing": 1, "rests": 0}, glued, web, 1, unknown, Bag([("x", ())]))
        self.refused(UnknownTown, {"town": "x"}, glued, web, 1, unknown, Bag([("x", ("q",)), ("q", ("y",))]))
        front = [("ann", ("m", "q", "m")), ("bob", ("m",))]
        self.refused(NoWay, {"day": 0, "here": "m", "there": "q"}, glued, web, 2, front, Bag([("m", ())]))
        self.refused(UnknownTown, {"town": "y"}, glued, web, 2, front, Bag([("m", ("p", "y"))]))
        front = [("ann", ("m", "p")), ("bob", ("p", "p"))]
        rests = Bag([("p", ("m",)), ("p", ("q",))])
        self.refused(NoWay, {"day": 1, "here": "p", "there": "q"}, glued, web, 1, front, rests)
        rests = Bag([("p", ("p", "q")), ("p", ("x",))])
        self.refused(NoWay, {"day": 2, "here": "p", "there": "q"}, glued, web, 1, front, rests)
        self.refused(UnknownTown, {"town": "x"}, glued, web, 1, front, rests, turn=1)

    def test_wrong_shapes_in_order(self):
        web = Web(["m"])
        for front in NO_FRONTS:
            self.misshapen("front", front_ledger, 6, front)
            self.misshapen("front", glued, web, 6, front, None, turn=None)
            self.misshapen("front", alike_behind, web, 6, front, None, None)
        for rests in NO_REST_BOOKS:
            self.misshapen("rests", rest_ledger, 0, rests)
            self.misshapen("rests", glued, web, 0, [("ann", ("x",))], rests, turn=None)
        for turn in NO_NUMBERS:
            self.misshapen("turn", glued, web, 0, [("ann", ("x",))], Bag(), turn=turn)

    def test_shapes_for_the_day(self):
        web = Web(["m"])
        for day in range(6):
            long = [("ann", ("m",) * (day + 2))]
            self.misshapen("front", glued, web, day, long, Bag())
            self.misshapen("front", front_ledger, day, long)
            self.misshapen("front", front_ledger, day, long + [("bob", ("m",))])
            self.misshapen("front", front_ledger, day, [("abe", ("m",))] + long)
            self.same(front_ledger(day + 1, long).many, day + 1)
            rests = Bag([("m", ("m",) * (6 - day))])
            self.same(rest_ledger(day, rests).many, 7 - day)
            self.misshapen("rests", rest_ledger, day + 1, rests)
            self.misshapen("rests", glued, web, day + 1, [("ann", ("m",))], rests)
            self.misshapen("second", telling_leg, day + 1, Bag(), rests)


class AlikeTest(Case):
    def test_telling_leg(self):
        first = Bag([("m", ("p", "q")), ("m", ("u", "q"))])
        second = Bag([("m", ("p", "q")), ("m", ("u", "w"))])
        self.same(telling_leg(day=0, first=first, second=second), ((1, "u", "q"), 1, 0))
        self.same(telling_leg(day=2, first=second, second=first), ((3, "u", "q"), 0, 1))
        self.assertIs(telling_leg(0, first, first), None)
        self.assertIs(telling_leg(0, Bag(), Bag()), None)
        self.same(telling_leg(3, Bag(), Bag([("m", ())])), ((3, "m", "-"), 0, 1))

    def test_unlike_books_with_equal_ledgers(self):
        first = Bag([("m", ("p", "q")), ("m", ("p",)), ("u", ("p",))])
        second = Bag([("m", ("p",)), ("m", ("p",)), ("u", ("p", "q"))])
        self.assertIs(first == second, False)
        self.assertIs(telling_leg(1, first, second), None)
        web = Web.full(["m", "p", "q", "u"])
        front = [("ann", ("m", "m")), ("bob", ("u", "u")), ("cat", ("q", "m"))]
        self.assertIs(alike_behind(web=web, day=1, front=front, first=first, second=second), True)
        third = Bag([("m", ("p", "q")), ("m", ("p", "q")), ("u", ())])
        self.assertIs(alike_behind(web, 1, front, first, third), False)
        self.same(telling_leg(1, first, third), ((1, "u", "-"), 0, 1))

    def test_against_the_glued_worlds(self):
        web = Web.full(["m", "p"])
        rests = [("m", ()), ("m", ("m",)), ("m", ("p",)), ("m", ("p", "m")), ("p", ()), ("p", ("m",)),
                 ("p", ("m", "p"))]
        books = [Bag(list(some)) for some in itertools.combinations_with_replacement(rests, 2)]
        fronts = [[("ann", ("m", here)), ("bob", ("m", there)), ("cat", ("p",))] for here in "mp" for there in "mp"]
        for front in fronts:
            for first, second in itertools.product(books, repeat=2):
                for book in (first, second):
                    plans = plain_glued(front, 1, book.things(), 0)
                    if plans is None:
                        with self.assertRaises(Unfit):
                            alike_behind(web, 1, front, first, second)
                        break
                else:
                    alike = alike_behind(web, 1, front, first, second)
                    self.same(alike, one_class(glued(web, 1, front, first), glued(web, 1, front, second, turn=1)))
                    self.same(alike, telling_leg(1, first, second) is None)

    def test_each_error_in_its_order(self):
        web = Web(["m", "p", "q"], [("m", "p")])
        front = [("ann", ("m", "p"))]
        good, far, unknown = Bag([("p", ())]), Bag([("p", ("q",))]), Bag([("p", ("x",))])
        unfit = Bag([("m", ())])
        for book in NO_REST_BOOKS:
            self.misshapen("first", alike_behind, web, 0, [("ann", ("x",))], book, None)
            self.misshapen("second", alike_behind, web, 0, [("ann", ("x",))], unfit, book)
            self.misshapen("first", telling_leg, 0, book, None)
            self.misshapen("second", telling_leg, 0, Bag(), book)
        calls = {"unfit": (Unfit, {"town": "m", "standing": 0, "rests": 1}), "unknown": (UnknownTown, {"town": "x"}),
                 "far": (NoWay, {"day": 1, "here": "p", "there": "q"})}
        books = {"unfit": unfit, "unknown": unknown, "far": far}
        for name, (error, attributes) in calls.items():
            for second in (good, unfit, unknown, far):
                self.refused(error, attributes, alike_behind, web, 1, front, books[name], second)
            self.refused(error, attributes, alike_behind, web, 1, front, good, books[name])
        self.assertIs(alike_behind(web, 1, front, good, good), True)
        self.assertIs(alike_behind(web, 1, front, good, Bag([("p", ("m",))])), False)


class NothingChangesTest(Case):
    def test_what_is_passed_and_returned(self):
        world = meeting_world()
        front, rests = front_of(world, 1), rest_book(world, 1)
        passed = repr([front, list(rests), world.rows])
        made = glued(world.web, 1, front, rests, turn=1)
        alike_behind(world.web, 1, front, rests, rests)
        front_ledger(1, front)
        self.same(repr([front, list(rests), world.rows]), passed)
        front_of(world, 1).clear()
        self.same(front_of(world, 1), front)
        front.clear()
        self.same(len(made.names), 5)

    def test_in_good_time_at_the_limits(self):
        world = full_world(6)
        begin = time.perf_counter()
        for day in range(7):
            front, rests = front_of(world, day), rest_book(world, day)
            for turn in range(7):
                glued(world.web, day, front, rests, turn=turn)
            self.assertIs(alike_behind(world.web, day, front, rests, rests), True)
            self.assertIs(telling_leg(day, rests, rests), None)
        self.assertLess(time.perf_counter() - begin, 10)


if __name__ == "__main__":
    unittest.main()
