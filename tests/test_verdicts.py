"""Verdicts: points 6, 18 and 38 to 41, and the interface of crossfarers/verdicts.py."""

import unittest

from crossfarers.bags import Bag
from crossfarers.deeds import deeds_of, done, is_leading
from crossfarers.errors import UnlikeClasses, UnlikeFrames
from crossfarers.ledgers import crossings_of, ledger_of, legs_of, starts_of
from crossfarers.verdicts import check_class, is_verdict, one_class, sorted_history, unlike_legs, verdict
from crossfarers.worlds import Web, World
from tests.helpers import Case
from tests.samples import (
    NO_HISTORIES, NO_NAMES, NO_NUMBERS, example, full_world, meeting_world, reached, small_worlds, some_history,
    worlds_reached,
)

CALLS = (one_class, unlike_legs, verdict, sorted_history, check_class)


def pair_of(first, second, towns="mpq"):
    """Return the two worlds of these plans in one full web."""
    web = Web.full(list(towns))
    return World(web, first), World(web, second)


def plain_sorted(world, target):
    """Return the sorted history, made step by step as point 39 tells, with plans as dicts."""
    noted = []
    plans = world.plans
    for day, town in crossings_of(world):
        standing = sorted(name for name in plans if plans[name][day:day + 1] == (town,))
        for at, x in enumerate(standing):
            wanted = legs_of(target[x])[day]
            if legs_of(plans[x])[day] == wanted:
                continue
            y = [name for name in standing[at + 1:] if legs_of(plans[name])[day] == wanted][0]
            noted.append((x, y, day))
            plans[x], plans[y] = plans[x][:day + 1] + plans[y][day + 1:], plans[y][:day + 1] + plans[x][day + 1:]
    return noted


class ClassTest(Case):
    def test_one_class_is_what_deeds_reach(self):
        for worlds in (small_worlds(2), small_worlds(3, 1)):
            for world in worlds[::11]:
                found = reached(world)
                for target in worlds:
                    self.same(one_class(world, target), target.rows in found)
                    self.same(one_class(target, world), target.rows in found)
        self.assertIs(one_class(world=world, target=world), True)

    def test_unlike_starts_with_equal_ledgers(self):
        world, target = pair_of({"ann": ("m",), "bob": ("p",)}, {"ann": ("p",), "bob": ("m",)})
        self.assertIs(one_class(world, target), False)
        self.same(unlike_legs(world, target), [])
        self.same(verdict(world, target), ("start", "ann", "m", "p"))
        for call in (sorted_history, check_class):
            self.refused(UnlikeClasses, {"paper": ("start", "ann", "m", "p")}, call, world, target)

    def test_unlike_legs(self):
        world, target = pair_of({"ann": ("m", "p"), "bob": ("m", "p"), "cat": ("q",)},
                                {"ann": ("m", "p", "q"), "bob": ("m",), "cat": ("q",)})
        self.same(unlike_legs(world=world, target=target), [
            ((0, "m", "-"), 0, 1), ((0, "m", "p"), 2, 1), ((1, "p", "-"), 2, 0), ((1, "p", "q"), 0, 1),
            ((2, "q", "-"), 0, 1)])
        self.same(verdict(world, target), ("leg", (0, "m", "-"), 0, 1))
        self.same(verdict(target, world), ("leg", (0, "m", "-"), 1, 0))
        self.refused(UnlikeClasses, {"paper": ("leg", (0, "m", "-"), 0, 1)}, check_class, world, target)
        self.refused(UnlikeClasses, {"paper": ("leg", (0, "m", "-"), 0, 1)}, sorted_history, world, target)
        self.same(unlike_legs(world, world), [])

    def test_each_verdict_of_small_worlds(self):
        worlds = small_worlds(2)
        for world in worlds[::5]:
            for target in worlds:
                numbers, others = ledger_of(world), ledger_of(target)
                legs = sorted(set(numbers.things() + others.things()))
                unlike = [(leg, numbers[leg], others[leg]) for leg in legs if numbers[leg] != others[leg]]
                self.same(unlike_legs(world, target), unlike)
                starts = [(name, town, other) for (name, town), (_, other) in zip(starts_of(world), starts_of(target))
                          if town != other]
                if starts:
                    wanted = ("start", *starts[0])
                elif unlike:
                    wanted = ("leg", *unlike[0])
                else:
                    wanted = ("history", plain_sorted(world, target))
                self.same(verdict(world, target), wanted)
                self.assertIs(is_verdict(world, target, wanted), True)
                if wanted[0] == "history":
                    self.assertIs(check_class(world, target), None)
                else:
                    self.refused(UnlikeClasses, {"paper": wanted}, check_class, world, target)

    def test_starts_go_first(self):
        world, target = pair_of({"ann": ("m", "p"), "bob": ("m",), "cat": ("p",)},
                                {"ann": ("m",), "bob": ("q",), "cat": ("q",)})
        self.same(verdict(world=world, target=target), ("start", "bob", "m", "q"))
        self.refused(UnlikeClasses, {"paper": ("start", "bob", "m", "q")}, check_class, world=world, target=target)

    def test_frames(self):
        world = meeting_world()
        web = Web.full(list("mpqr"))
        fewer = {name: plan for name, plan in world if name != "bob"}
        other = {**fewer, "abe": ("m",)}
        for call in (*CALLS, lambda first, second: is_verdict(first, second, ("history", [])),
                     lambda first, second: is_verdict(first, second, None)):
            self.refused(UnlikeFrames, {"part": "web"}, call, world, World(web, world.plans))
            self.refused(UnlikeFrames, {"part": "web"}, call, world, World(web, fewer))
            self.refused(UnlikeFrames, {"part": "travellers"}, call, world, World(world.web, fewer))
            self.refused(UnlikeFrames, {"part": "travellers"}, call, World(world.web, other), world)

    def test_check_class_returns_nothing(self):
        world = meeting_world()
        self.assertIs(check_class(world, done(world, deeds_of(world)[0])), None)


class SortedHistoryTest(Case):
    def test_the_example(self):
        world, target = example()
        self.same(sorted_history(world, target), [("ann", "cat", 0), ("bob", "dan", 0), ("cat", "dan", 1)])
        self.same(verdict(world, target), ("history", [("ann", "cat", 0), ("bob", "dan", 0), ("cat", "dan", 1)]))

    def test_the_first_later_one(self):
        world, target = pair_of({"ann": ("m", "p"), "bob": ("m", "q"), "cat": ("m", "q"), "dan": ("m", "q", "m")},
                                {"ann": ("m", "q"), "bob": ("m", "q"), "cat": ("m", "q", "m"), "dan": ("m", "p")})
        self.same(sorted_history(world=world, target=target),
                  [("ann", "bob", 0), ("bob", "cat", 0), ("cat", "dan", 0)])

    def test_equal_worlds(self):
        for world in (meeting_world(), full_world(6)):
            self.same(sorted_history(world, world), [])

    def test_each_sorted_history(self):
        for world in [meeting_world(), *example(), *small_worlds(3, 1)[::13]]:
            for target, number in worlds_reached(world):
                history = sorted_history(world, target)
                self.same(history, plain_sorted(world, target))
                self.assertIs(is_leading(world, target, history), True)
                self.assertLessEqual(number, len(history))
                back = sorted_history(target, world)
                self.assertIs(is_leading(target, world, back), True)

    def test_seven_days_of_six_travellers(self):
        web = Web.full(list("abcdef"))
        plans = {name: ("a",) + (name,) * 5 + ("a",) for name in "abcdef"}
        turned = {name: ("a",) + (other,) * 5 + ("a",) for name, other in zip("abcdef", "bcdefa")}
        world, target = World(web, plans), World(web, turned)
        self.same(sorted_history(world, target), [(name, other, 0) for name, other in zip("abcdef", "bcdef")])
        rows = {name: tuple(["abcdef"[(at + day * day) % 6] for day in range(7)]) for at, name in enumerate("abcdef")}
        mixed = {name: ("a",) + row[1:] for name, row in rows.items()}
        world = World(web, mixed)
        for at in range(6):
            history = some_history(world, 20 + at)
            target = world
            for deed in history:
                target = done(target, deed)
            found = sorted_history(world, target)
            self.same(found, plain_sorted(world, target))
            self.assertLessEqual(len(found), 30)


class JudgeTest(Case):
    def judged(self, world, target, paper, wanted):
        self.assertIs(is_verdict(world, target, paper), wanted)

    def test_history_papers(self):
        world, target = example()
        history = sorted_history(world, target)
        self.assertIs(is_verdict(world=world, target=target, paper=("history", history)), True)
        self.judged(world, target, ("history", [("dan", "bob", 0), ("ann", "cat", 0), ("cat", "dan", 1)]), True)
        self.judged(world, target, ("history", history + history[-1:] * 2), True)
        self.judged(world, world, ("history", []), True)
        self.judged(world, target, ("history", []), False)
        self.judged(world, target, ("history", history[:2]), False)
        self.judged(world, target, ("history", [("ann", "ann", 0)]), False)
        self.judged(world, target, ("history", tuple(history)), False)
        self.judged(world, target, ("history", [list(deed) for deed in history]), False)
        self.judged(world, target, ("history", [("ann", "cat", False), *history[1:]]), False)
        self.judged(world, target, ["history", history], False)
        self.judged(world, target, ("history", history, 0), False)
        self.judged(world, target, ("history",), False)
        self.judged(world, target, ("start", history), False)
        self.judged(world, target, ("history", history, 0, 0), False)
        for wrong in NO_HISTORIES:
            self.judged(world, world, ("history", wrong), False)

    def test_start_papers(self):
        world, target = pair_of({"ann": ("m", "p"), "bob": ("m",), "cat": ("p",)},
                                {"ann": ("m",), "bob": ("q",), "cat": ("q",)})
        self.judged(world, target, ("start", "bob", "m", "q"), True)
        self.judged(world, target, ("start", "cat", "p", "q"), True)
        self.judged(world, target, ("start", "ann", "m", "m"), False)
        self.judged(world, target, ("start", "bob", "q", "m"), False)
        self.judged(world, target, ("start", "bob", "m", "p"), False)
        self.judged(world, target, ("start", "bob", "p", "q"), False)
        self.judged(world, target, ("start", "zoe", "m", "q"), False)
        self.judged(world, target, ["start", "bob", "m", "q"], False)
        self.judged(world, target, ("leg", "bob", "m", "q"), False)
        self.judged(world, target, ("start", "bob", "m", "q", 0), False)
        self.judged(world, target, ("start", "bob", "m"), False)
        self.judged(world, target, ("history", "bob", "m", "q"), False)
        for value in (*NO_NAMES, world, Bag(["m"])):
            self.judged(world, target, ("start", value, "m", "q"), False)
            self.judged(world, target, ("start", "bob", value, "q"), False)
            self.judged(world, target, ("start", "bob", "m", value), False)
            self.judged(world, target, (value, "bob", "m", "q"), False)

    def test_leg_papers(self):
        world, target = pair_of({"ann": ("m", "p"), "bob": ("m", "p"), "cat": ("q",)},
                                {"ann": ("m", "p", "q"), "bob": ("m",), "cat": ("q",)})
        for row in unlike_legs(world, target):
            self.judged(world, target, ("leg", *row), True)
            self.judged(world, target, ("leg", row[0], row[2], row[1]), False)
            self.judged(target, world, ("leg", row[0], row[2], row[1]), True)
            self.judged(world, target, ("leg", row[0], row[1] + 1, row[2]), False)
            self.judged(world, target, ("leg", row[0], row[1], row[2] + 1), False)
            self.judged(world, target, ("leg", list(row[0]), row[1], row[2]), False)
            self.judged(world, target, ["leg", *row], False)
            for form in ("start", "history", "legs", "", None, ("leg",)):
                self.judged(world, target, (form, *row), False)
            self.judged(world, target, ("leg", *row, 0), False)
        self.judged(world, target, ("leg", (0, "m", "-"), False, 1), False)
        self.judged(world, target, ("leg", (0, "m", "-"), 0, True), False)
        self.judged(world, target, ("leg", (False, "m", "-"), 0, 1), False)
        self.judged(world, target, ("leg", (True, "p", "q"), 0, 1), False)
        self.judged(world, target, ("leg", (0, "q", "-"), 1, 1), False)
        self.judged(world, target, ("leg", (5, "x", "y"), 0, 0), False)
        self.judged(world, target, ("leg", (5, "x", "y"), 0, 1), False)
        self.judged(world, target, ("leg", (7, "m", "-"), 0, 1), False)
        for value in (*NO_NUMBERS, world):
            self.judged(world, target, ("leg", (0, "m", "-"), value, 1), False)
            self.judged(world, target, ("leg", (0, "m", "-"), 0, value), False)
            self.judged(world, target, ("leg", value, 0, 1), False)
        self.judged(world, target, ("leg", (0, "m", "p"), 2, 1), True)
        self.judged(world, target, ("leg", "m", 0, 1), False)

    def test_wrong_papers(self):
        world, target = example()
        for paper in (None, True, 0, "history", "start", [], (), {}, (1, 2), ("verdict", []), ("leg",), world,
                      (world, world), (None, None, None, None), ((), [], {}, ""), {"history": []}):
            self.judged(world, target, paper, False)
            self.judged(world, world, paper, False)

    def test_papers_of_one_class_are_no_others(self):
        world, target = example()
        for name, town in starts_of(world):
            self.judged(world, target, ("start", name, town, town), False)
        for leg, number in ledger_of(world):
            self.judged(world, target, ("leg", leg, number, number), False)


class NothingChangesTest(Case):
    def test_what_is_passed_and_returned(self):
        world, target = example()
        rows = [world.rows, target.rows]
        history = sorted_history(world, target)
        wanted = list(history)
        history.clear()
        verdict(world, target)[1].clear()
        self.same([sorted_history(world, target), verdict(world, target)], [wanted, ("history", wanted)])
        first, second = pair_of({"ann": ("m", "p")}, {"ann": ("m", "q")})
        unlike_legs(first, second).clear()
        self.same(len(unlike_legs(first, second)), 4)
        paper = ("history", wanted)
        is_verdict(world, target, paper)
        self.same(paper, verdict(world, target))
        self.same([world.rows, target.rows], rows)
        with self.assertRaises(UnlikeClasses) as caught:
            check_class(first, second)
        self.same(caught.exception.paper, verdict(first, second))


if __name__ == "__main__":
    unittest.main()
