"""Deeds within open towns: points 72 to 76, and the interface of crossfarers/stretches.py."""

import itertools
import math
import time
import unittest

from crossfarers.bags import Bag
from crossfarers.classes import class_count
from crossfarers.deeds import done, replay
from crossfarers.errors import UnknownTown, UnlikeFrames
from crossfarers.ledgers import crossings_of, legs_of, standing
from crossfarers.lengths import length_rule
from crossfarers.stretches import (
    class_count_within, first_stretches, is_verdict_within, length_rule_within, one_class_within, stretch_book,
    verdict_within,
)
from crossfarers.verdicts import one_class, verdict
from crossfarers.worlds import Web, World
from tests.helpers import Case
from tests.samples import (
    NO_HISTORIES, NO_NAMES, NO_NUMBERS, example, full_world, meeting_world, plain_deeds, plain_done, reached,
    small_worlds, worlds_reached,
)

NO_OPEN_TOWNS = (
    None, True, 0, "", "m", (), {}, ("m",), {"m": 1}, ["m", "m"], ["m", "p", "m"], ["-"], ["A"], [""], [None], [1],
    [["m"]], [("m",)], ["x", "-"], list("abcdefghi"),
)
NO_STRETCHES = (
    None, True, 0, "m", [], (), {}, (0,), (0, ("m",), 0), [0, ("m", "p")], (0, ["m", "p"]), (0, "mp"),
    (False, ("m", "p")), (True, ("m", "p")), (7, ("m", "-")), (-1, ("m", "-")), ("0", ("m", "-")), (0, ("m", "A")),
    (0, ("m", ["p"])), (0, ("m", 1)), (0, ("m", "p"), "-"), (0, ("m", {})), ([0], ("m", "p")),
)
ONE = (stretch_book, first_stretches, class_count_within, length_rule_within)
TWO = (one_class_within, verdict_within, lambda world, target, towns: is_verdict_within(world, target, towns, None))


def towns_of(world):
    """Return all lists of towns of the web."""
    towns = world.web.towns
    return [list(row) for many in range(len(towns) + 1) for row in itertools.combinations(towns, many)]


def plain_stretch(plan, day, towns):
    """Return the stretch of the plan from a day on."""
    later = [at for at in range(day + 1, len(plan)) if plan[at] in towns]
    return (day, plan[day:later[0] + 1]) if later else (day, plan[day:] + ("-",))


def plain_firsts(world, towns):
    """Return the pairs of a traveller and its first stretch."""
    return [(name, (0, plan[:1]) if plan[0] in towns else plain_stretch(plan, 0, towns)) for name, plan in world]


def plain_book(world, towns):
    """Return the ascending list of all stretches that begin at open crossings."""
    return sorted(plain_stretch(plan, day, towns) for _, plan in world for day, town in enumerate(plan)
                  if town in towns)


def plain_sorted(world, target, towns):
    """Return the sorted history within the towns, made step by step with dicts."""
    noted, plans = [], world.plans
    for day, town in crossings_of(world):
        if town not in towns:
            continue
        names = sorted(name for name in plans if plans[name][day:day + 1] == (town,))
        for at, x in enumerate(names):
            wanted = plain_stretch(target[x], day, towns)
            if plain_stretch(plans[x], day, towns) != wanted:
                y = [name for name in names[at + 1:] if plain_stretch(plans[name], day, towns) == wanted][0]
                noted.append((x, y, day))
                plans = plain_done(plans, (x, y, day))
    return noted


def some_questions():
    """Return pairs of a world with a small class and open towns of its web."""
    worlds = [meeting_world(), example()[0], *small_worlds(2)[::11], *small_worlds(3, 1)[::13]]
    return [(world, towns) for world in worlds for towns in towns_of(world)[::1 if len(world.web.towns) < 5 else 9]]


class BookTest(Case):
    def test_the_example_of_the_interface(self):
        world = World(Web.full(["m", "p"]), {"ann": ("m", "p", "m")})
        self.same(stretch_book(world, ["m"]).things(), [(0, ("m", "p", "m")), (2, ("m", "-"))])
        self.same(stretch_book(world=world, open_towns=["p"]).things(), [(1, ("p", "m", "-"))])
        self.same(stretch_book(world, []).things(), [])
        self.same(stretch_book(world, ["p", "m"]).things(), [(0, ("m", "p")), (1, ("p", "m")), (2, ("m", "-"))])

    def test_first_stretches(self):
        world = World(Web.full(["m", "p"]), {"ann": ("m", "p", "m"), "bob": ("p",), "cat": ("p", "p", "m", "m")})
        self.same(first_stretches(world=world, open_towns=["m"]), [
            ("ann", (0, ("m",))), ("bob", (0, ("p", "-"))), ("cat", (0, ("p", "p", "m")))])
        self.same(first_stretches(world, []), [
            ("ann", (0, ("m", "p", "m", "-"))), ("bob", (0, ("p", "-"))), ("cat", (0, ("p", "p", "m", "m", "-")))])
        self.same(first_stretches(world, ["p"]), [
            ("ann", (0, ("m", "p"))), ("bob", (0, ("p",))), ("cat", (0, ("p",)))])
        self.same(stretch_book(world, ["m"]).things(), [
            (0, ("m", "p", "m")), (2, ("m", "-")), (2, ("m", "m")), (3, ("m", "-"))])

    def test_against_the_document(self):
        for world, towns in [*some_questions(), (full_world(6), ["a", "d"]), (full_world(6), list("hgfedcba"))]:
            for told in (towns, towns[::-1]):
                self.same(stretch_book(world, told).things(), plain_book(world, towns))
                self.same(first_stretches(world, told), plain_firsts(world, towns))

    def test_all_towns_open(self):
        for world in (meeting_world(), *example(), full_world(6)):
            towns = list(world.web.towns)
            legs = [(day, (here, there)) for _, plan in world for day, here, there in legs_of(plan)]
            self.same(stretch_book(world, towns).things(), sorted(legs))
            self.same(first_stretches(world, towns), [(name, (0, plan[:1])) for name, plan in world])
            self.same(class_count_within(world, towns), class_count(world))
            self.same(length_rule_within(world, towns), length_rule(world))

    def test_stretches_of_a_whole_week(self):
        world = World(Web.full(["m", "p"]), {"ann": ("m",) + ("p",) * 6, "bob": ("p",) * 7})
        self.same(stretch_book(world, ["m"]).things(), [(0, ("m", "p", "p", "p", "p", "p", "p", "-"))])
        self.same(first_stretches(world, ["m"])[1], ("bob", (0, ("p",) * 7 + ("-",))))
        self.same(stretch_book(World(Web(["m"]), {"ann": ("m",) * 7}), ["m"]).many, 7)


class ClassTest(Case):
    def test_against_a_search(self):
        for world, towns in some_questions():
            found = reached(world, towns)
            self.same(class_count_within(world=world, open_towns=towns), len(found))
            self.assertIs(one_class_within(world, world, towns), True)
            for target, _ in worlds_reached(world)[::3]:
                self.same(one_class_within(world=world, target=target, open_towns=towns), target.rows in found)

    def test_against_all_worlds(self):
        worlds = small_worlds(2)
        for world in worlds[::23]:
            for towns in ([], ["m"], ["p"], ["p", "m"]):
                found = reached(world, towns)
                for target in worlds:
                    self.same(one_class_within(world, target, towns), target.rows in found)

    def test_counts(self):
        world = example()[0]
        self.same(class_count_within(world, []), 1)
        self.same([class_count_within(world, [town]) for town in "mpquvwz"], [24, 2, 2, 1, 1, 1, 1])
        self.same(class_count_within(world, ["p", "q"]), 4)
        for one, towns in some_questions():
            count, book = 1, plain_book(one, towns)
            for day, town in crossings_of(one):
                if town in towns:
                    rows = [row for row in book if (row[0], row[1][0]) == (day, town)]
                    self.same(len(rows), len(standing(one, (day, town))))
                    count *= math.factorial(len(rows))
                    for row in set(rows):
                        count //= math.factorial(rows.count(row))
            self.same(class_count_within(one, towns), count)

    def test_within_is_narrower(self):
        world, target = example()
        self.assertIs(one_class(world, target), True)
        self.assertIs(one_class_within(world, target, ["m"]), True)
        self.assertIs(one_class_within(world, target, ["p", "q"]), False)
        self.assertIs(one_class_within(world, target, []), False)


class LengthTest(Case):
    def test_each_rule(self):
        world = meeting_world()
        self.same(length_rule_within(world, []), "zero")
        self.same(length_rule_within(world, ["r"]), "zero")
        self.same(length_rule_within(world, ["m"]), "even")
        self.same(length_rule_within(world, ["p"]), "even")
        self.same(length_rule_within(world=world, open_towns=["q"]), "all")
        self.same(length_rule_within(world, ["m", "p", "q", "r"]), length_rule(world))
        settling = World(Web.full(["m", "p"]), {"ann": ("m", "p"), "bob": ("m", "p")})
        self.same(length_rule_within(settling, ["m"]), "all")
        self.same(stretch_book(settling, ["m"]).things(), [(0, ("m", "p", "-"))] * 2)
        self.same(length_rule_within(settling, ["p"]), "all")
        going = World(Web.full(["m", "p"]), {"ann": ("m", "p", "p"), "bob": ("m", "p", "m")})
        self.same(length_rule_within(going, ["m"]), "even")
        apart = World(Web.full(["m", "p"]), {"ann": ("p", "m"), "bob": ("m", "p")})
        self.same(length_rule_within(apart, ["m", "p"]), "zero")

    def test_against_all_numbers_of_deeds(self):
        for world, towns in some_questions()[::2]:
            fewest = reached(world, towns)
            present = {world.rows}
            rule = length_rule_within(world, towns)
            for number in range(7):
                for rows, least in fewest.items():
                    good = number == least or rule != "zero" and number > least and (
                        rule == "all" or (number - least) % 2 == 0)
                    self.same(rows in present, good)
                present = {tuple(sorted(plain_done(dict(rows), deed).items())) for rows in present
                           for deed in plain_deeds(dict(rows)) if dict(rows)[deed[0]][deed[2]] in towns}


class VerdictTest(Case):
    def test_each_form(self):
        web = Web.full(["m", "p", "q"])
        world = World(web, {"ann": ("m", "p", "q"), "bob": ("m", "p")})
        target = World(web, {"ann": ("m", "p"), "bob": ("m", "p", "q")})
        self.same(verdict_within(world=world, target=target, open_towns=["m"]), ("history", [("ann", "bob", 0)]))
        self.same(verdict_within(world, target, ["p"]), ("history", [("ann", "bob", 1)]))
        self.same(verdict_within(world, target, ["p", "m"]), ("history", [("ann", "bob", 1)]))
        self.same(verdict_within(world, target, ["q"]), ("first", "ann", (0, ("m", "p", "q")), (0, ("m", "p", "-"))))
        self.same(verdict_within(world, target, []), ("first", "ann", (0, ("m", "p", "q", "-")), (0, ("m", "p", "-"))))
        other = World(web, {"ann": ("m", "p", "q"), "bob": ("m", "q")})
        self.same(verdict_within(world, other, ["m"]), ("stretch", (0, ("m", "p", "-")), 1, 0))
        self.same(verdict_within(other, world, ["m"]), ("stretch", (0, ("m", "p", "-")), 0, 1))
        self.same(verdict_within(world, world, []), ("history", []))

    def test_each_verdict_of_small_worlds(self):
        worlds = small_worlds(2)
        for world in worlds[::11]:
            for target in worlds[::3]:
                for towns in ([], ["m"], ["p"], ["p", "m"]):
                    paper = verdict_within(world, target, towns)
                    firsts = [("first", name, stretch, other) for (name, stretch), (_, other)
                              in zip(plain_firsts(world, towns), plain_firsts(target, towns)) if stretch != other]
                    book, others = plain_book(world, towns), plain_book(target, towns)
                    stretches = [("stretch", stretch, book.count(stretch), others.count(stretch))
                                 for stretch in sorted(set(book + others))
                                 if book.count(stretch) != others.count(stretch)]
                    if not firsts and not stretches:
                        self.same(paper, ("history", plain_sorted(world, target, towns)))
                    else:
                        self.same(paper, (firsts + stretches)[0])
                    for right in [paper, *firsts, *stretches]:
                        self.assertIs(is_verdict_within(world, target, towns, right), True)

    def test_sorted_histories(self):
        for world, towns in some_questions():
            for rows in list(reached(world, towns))[::2]:
                target = World(world.web, dict(rows))
                history = plain_sorted(world, target, towns)
                self.same(verdict_within(world, target, towns), ("history", history))
                self.assertIs(replay(world, history) == target, True)
                self.assertIs(is_verdict_within(world, target, towns, ("history", history)), True)
                self.assertLessEqual(len(history), 30)
        world, target = example()
        self.same(verdict_within(world, target, ["m"]), (
            "history", [("ann", "cat", 0), ("bob", "dan", 0), ("cat", "dan", 0)]))
        self.same(verdict_within(world, target, list("mpquvwz")), verdict(world, target))

    def test_histories_that_are_judged(self):
        web = Web.full(["m", "p", "q"])
        world = World(web, {"ann": ("m", "p", "q"), "bob": ("m", "p"), "cat": ("m", "p")})
        target = World(web, {"ann": ("m", "p"), "bob": ("m", "p", "q"), "cat": ("m", "p")})

        def judge(towns, *history):
            return is_verdict_within(world, target, towns, ("history", list(history)))

        self.assertIs(judge(["m"], ("ann", "bob", 0)), True)
        self.assertIs(judge(["m"], ("bob", "ann", 0)), True)
        self.assertIs(judge(["m"], ("bob", "cat", 0), ("ann", "bob", 0)), True)
        self.assertIs(judge(["m"], ("bob", "cat", 1), ("ann", "bob", 0)), False)
        self.assertIs(judge(["m", "p"], ("bob", "cat", 1), ("ann", "bob", 0)), True)
        self.assertIs(judge(["m"], ("ann", "bob", 1)), False)
        self.assertIs(judge(["p"], ("ann", "bob", 1)), True)
        self.assertIs(judge(["q"], ("ann", "bob", 1)), False)
        self.assertIs(judge(["m"]), False)
        self.assertIs(judge(["m"], ("ann", "bob", 0), ("ann", "bob", 0)), False)
        self.assertIs(judge(["m"], ("ann", "cat", 0), ("bob", "cat", 0)), True)
        self.assertIs(judge(["m"], ("ann", "ann", 0), ("ann", "bob", 0)), False)
        self.assertIs(judge(["m"], ("ann", "zoe", 0), ("ann", "bob", 0)), False)
        self.assertIs(judge(["m"], *[("bob", "cat", 0)] * 59, ("ann", "bob", 0)), True)
        self.assertIs(judge(["m"], *[("bob", "cat", 0)] * 60, ("ann", "bob", 0)), False)
        moved = done(world, ("ann", "bob", 0))
        self.assertIs(is_verdict_within(world, moved, ["m"], ("history", [("ann", "bob", 0)])), True)

    def test_an_open_town_is_looked_at_when_the_deed_is_done(self):
        web = Web.full(["m", "p", "q"])
        world = World(web, {"ann": ("m", "p", "m"), "bob": ("m", "q", "q"), "cat": ("q", "q", "p")})
        history = [("ann", "bob", 0), ("ann", "cat", 1)]
        target = replay(world, history)
        self.assertIs(is_verdict_within(world, target, ["m", "q"], ("history", history)), True)
        self.assertIs(is_verdict_within(world, target, ["m", "p"], ("history", history)), False)

    def test_papers_of_unlike_parts(self):
        web = Web.full(["m", "p", "q"])
        world = World(web, {"ann": ("m", "p", "q"), "bob": ("m", "p"), "cat": ("p", "m")})
        target = World(web, {"ann": ("m", "p"), "bob": ("p", "q"), "cat": ("p", "m", "m")})

        def judge(*paper):
            return is_verdict_within(world, target, ["m"], paper)

        self.same(verdict_within(world, target, ["m"]), ("first", "bob", (0, ("m",)), (0, ("p", "q", "-"))))
        self.assertIs(judge("first", "bob", (0, ("m",)), (0, ("p", "q", "-"))), True)
        self.assertIs(judge("first", "bob", (0, ("p", "q", "-")), (0, ("m",))), False)
        self.assertIs(judge("first", "bob", (0, ("m", "p", "-")), (0, ("p", "q", "-"))), False)
        self.assertIs(judge("first", "bob", (0, ("m",)), (0, ("p", "q"))), False)
        self.assertIs(judge("first", "ann", (0, ("m",)), (0, ("m",))), False)
        self.assertIs(judge("first", "cat", (0, ("p", "m")), (0, ("p", "m"))), False)
        self.assertIs(judge("stretch", (0, ("m", "p", "q", "-")), 1, 0), True)
        self.assertIs(judge("stretch", (0, ("m", "p", "-")), 1, 1), False)
        self.assertIs(judge("stretch", (1, ("m", "m")), 0, 1), True)
        self.assertIs(judge("stretch", (1, ("m", "m")), 1, 0), False)
        self.assertIs(judge("stretch", (1, ("m", "m")), False, True), False)
        self.assertIs(judge("stretch", (True, ("m", "m")), 0, 1), False)
        self.assertIs(judge("stretch", (0, ("p", "m")), 1, 0), False)
        self.assertIs(judge("stretch", (0, ("m",)), 1, 0), False)
        self.assertIs(judge("first", "bob", (False, ("m",)), (0, ("p", "q", "-"))), False)
        self.assertIs(judge("first", "bob", (0, ("m",)), (False, ("p", "q", "-"))), False)
        self.assertIs(judge("leg", (0, "m", "p"), 2, 1), False)
        self.assertIs(judge("leg", (1, ("m", "m")), 0, 1), False)
        self.assertIs(judge("history", (1, ("m", "m")), 0, 1), False)
        self.assertIs(judge("start", "bob", (0, ("m",)), (0, ("p", "q", "-"))), False)
        self.assertIs(judge("start", "bob", "m", "p"), False)
        self.assertIs(judge("stretch", (1, ("m", "-")), 1, 0), True)
        for name in (*NO_NAMES, "zoe"):
            self.assertIs(judge("first", name, (0, ("m",)), (0, ("p", "q", "-"))), False)
        for stretch in NO_STRETCHES:
            self.assertIs(judge("first", "bob", stretch, (0, ("p", "q", "-"))), False)
            self.assertIs(judge("first", "bob", (0, ("m",)), stretch), False)
            self.assertIs(judge("stretch", stretch, 1, 0), False)
        for number in NO_NUMBERS:
            self.assertIs(judge("stretch", (1, ("m", "m")), number, 1), False)
            self.assertIs(judge("stretch", (1, ("m", "m")), 0, number), False)

    def test_papers_of_wrong_shape(self):
        world, target = example()
        for history in NO_HISTORIES:
            self.assertIs(is_verdict_within(world, target, ["m"], ("history", history)), False)
        right = [("ann", "cat", 0), ("bob", "dan", 0), ("cat", "dan", 0)]
        for paper in (None, True, 0, "", "history", [], (), {}, world, ["history", right], ("history",), (right,),
                      ("history", right, 0), ("History", right), (None, right), ([], right), (world, right),
                      ("first", right), ("stretch", right), ("history", tuple(right)), ("history", world), ("first",),
                      (world, "ann", (0, ("m",)), (0, ("m",))), ("history", right, right, right), {"history": right}):
            self.assertIs(is_verdict_within(world, target, ["m"], paper), False)
        self.assertIs(is_verdict_within(world=world, target=target, open_towns=["m"], paper=("history", right)), True)


class ErrorsTest(Case):
    def test_wrong_open_towns(self):
        world, other = example()[0], World(Web(["m"]), {"ann": ("m",)})
        for towns in NO_OPEN_TOWNS:
            for call in ONE:
                self.misshapen("open_towns", call, world, towns)
            for call in TWO:
                self.misshapen("open_towns", call, world, other, towns)

    def test_unknown_open_towns(self):
        world, target = example()
        for call in ONE:
            self.refused(UnknownTown, {"town": "y"}, call, world, ["m", "y", "x"])
            self.refused(UnknownTown, {"town": "ann"}, call, world, ["ann"])
            self.refused(UnknownTown, {"town": "m8"}, call, world, [f"m{at}" for at in range(8, 0, -1)])
        for call in TWO:
            self.refused(UnknownTown, {"town": "y"}, call, world, target, ["m", "y", "x"])
            self.refused(UnknownTown, {"town": "y"}, call, world, world, ["m", "y", "x"])

    def test_unlike_frames_go_first(self):
        world = example()[0]
        fewer = World(world.web, {name: plan for name, plan in world if name != "ann"})
        elsewhere = World(Web.full(list("mpquvwxz")), fewer.plans)
        for call in TWO:
            for towns in ([], ["m"], ["x"], ["m", "x"]):
                self.refused(UnlikeFrames, {"part": "web"}, call, world, elsewhere, towns)
                self.refused(UnlikeFrames, {"part": "travellers"}, call, world, fewer, towns)


class NothingChangesTest(Case):
    def test_what_is_passed_and_returned(self):
        world, target = example()
        towns = ["q", "m", "p"]
        history = verdict_within(world, target, ["m"])[1]
        passed = repr([world.rows, target.rows, towns, history])
        for call in (*[lambda call=call: call(world, towns) for call in ONE],
                     lambda: verdict_within(world, target, towns), lambda: one_class_within(world, target, towns),
                     lambda: is_verdict_within(world, target, towns, ("history", history))):
            call()
        self.same(repr([world.rows, target.rows, towns, history]), passed)
        first_stretches(world, towns).clear()
        self.same(len(first_stretches(world, towns)), 4)
        verdict_within(world, target, ["m"])[1].clear()
        self.same(verdict_within(world, target, ["m"])[1], history)
        self.assertIs(is_verdict_within(world, target, towns, Bag()), False)

    def test_in_good_time_at_the_limits(self):
        world = full_world(6)
        target = replay(world, [("ann", "bob", 0), ("cat", "dan", 0), ("ann", "eve", 0), ("bob", "fay", 0)])
        begin = time.perf_counter()
        for towns in towns_of(world)[::8]:
            paper = verdict_within(world, target, towns)
            self.assertIs(is_verdict_within(world, target, towns, paper), True)
            class_count_within(world, towns)
            length_rule_within(world, towns)
        self.assertLess(time.perf_counter() - begin, 20)


if __name__ == "__main__":
    unittest.main()
