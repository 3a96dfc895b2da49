"""Deeds: points 5, 6 and 27 to 30, and the interface of crossfarers/deeds.py."""

import itertools
import unittest

from crossfarers import errors
from crossfarers.changes import renamed, town_joined, united
from crossfarers.deeds import (
    back, chained, crossing_of, cut_history, deed_count, deeds_of, done, is_idle, is_leading, neighbours_exchanged,
    refusal, replay, worlds_along,
)
from crossfarers.errors import (
    NoStep, PlanOver, SameCrossing, SameTraveller, StepRefused, TooMany, UnknownTraveller, UnlikeFrames, UnlikeTowns,
)
from crossfarers.worlds import Web, World
from tests.helpers import Case
from tests.samples import (
    NO_DEEDS, NO_HISTORIES, NO_NUMBERS, full_world, meeting_world, plain_deeds, plain_done, small_worlds,
    some_history,
)

REFUSED = (
    (("zoe", "zac", 6), UnknownTraveller, {"name": "zoe"}),
    (("zoe", "zoe", 0), UnknownTraveller, {"name": "zoe"}),
    (("m", "ann", 0), UnknownTraveller, {"name": "m"}),
    (("ann", "zac", 6), UnknownTraveller, {"name": "zac"}),
    (("eve", "zac", 6), UnknownTraveller, {"name": "zac"}),
    (("eve", "eve", 6), SameTraveller, {"name": "eve"}),
    (("ann", "ann", 0), SameTraveller, {"name": "ann"}),
    (("eve", "bob", 3), PlanOver, {"name": "eve", "day": 3}),
    (("bob", "eve", 3), PlanOver, {"name": "bob", "day": 3}),
    (("ann", "eve", 1), PlanOver, {"name": "eve", "day": 1}),
    (("ann", "bob", 3), PlanOver, {"name": "bob", "day": 3}),
    (("cat", "ann", 2), PlanOver, {"name": "cat", "day": 2}),
    (("ann", "dan", 0), UnlikeTowns, {"first": "m", "second": "q"}),
    (("dan", "ann", 0), UnlikeTowns, {"first": "q", "second": "m"}),
    (("cat", "bob", 1), UnlikeTowns, {"first": "p", "second": "m"}),
)


def example():
    """Return the world of the example in the interface."""
    return World(Web.full(["m", "p"]), {"ann": ("m", "p", "p"), "bob": ("m",)})


class DeedsTest(Case):
    def test_the_example(self):
        self.same(done(example(), ("ann", "bob", 0)).rows, (("ann", ("m",)), ("bob", ("m", "p", "p"))))
        self.same(done(world=example(), deed=("bob", "ann", 0)).rows, (("ann", ("m",)), ("bob", ("m", "p", "p"))))

    def test_rests_are_exchanged(self):
        world = meeting_world()
        self.same(done(world, ("cat", "ann", 1)).plans, {
            **world.plans, "ann": ("m", "p"), "cat": ("m", "p", "q", "q")})
        self.same(done(world, ("ann", "dan", 1)).plans, {
            **world.plans, "ann": ("m", "p", "q"), "dan": ("q", "p", "q", "q")})
        self.same(done(world, ("dan", "ann", 2)).plans, {
            **world.plans, "ann": ("m", "p", "q"), "dan": ("q", "p", "q", "q")})
        self.same(done(world, ("bob", "ann", 0)).plans, {
            **world.plans, "ann": ("m", "m", "q"), "bob": ("m", "p", "q", "q")})
        self.assertIs(done(world, ("ann", "bob", 0)).web == world.web, True)

    def test_each_deed_of_small_worlds(self):
        for world in small_worlds(2) + small_worlds(3, 1):
            fitting = plain_deeds(world.plans)
            self.same(deeds_of(world), fitting)
            self.same(deed_count(world=world), len(fitting))
            for x, y, day in fitting:
                made = done(world, (x, y, day))
                self.same(made.plans, plain_done(world.plans, (x, y, day)))
                self.assertIs(done(world, (y, x, day)) == made, True)
                self.assertIs(done(made, (x, y, day)) == world, True)
                self.assertIs(refusal(world, (y, x, day)), None)
                self.assertIs(is_idle(world, (y, x, day)), made == world)
                self.same(crossing_of(world, (y, x, day)), (day, world[x][day]))
            for x, y in itertools.permutations(world.names, 2):
                for day in range(7):
                    self.same(refusal(world, (x, y, day)) is None, (min(x, y), max(x, y), day) in fitting)

    def test_the_last_day(self):
        world = World(Web.full(["m", "p"]), {"ann": ("m",) * 7, "bob": ("p",) * 6 + ("m",)})
        self.same(deeds_of(world=world), [("ann", "bob", 6)])
        self.same(done(world, ("ann", "bob", 6)).rows, world.rows)
        self.same(crossing_of(world=world, deed=("bob", "ann", 6)), (6, "m"))
        self.assertIs(is_idle(world=world, deed=("bob", "ann", 6)), True)

    def test_idle_deeds(self):
        world = World(Web.full(["m", "p"]), {"ann": ("m", "p"), "bob": ("p", "p"), "cat": ("p", "p", "p")})
        self.assertIs(is_idle(world, ("ann", "bob", 1)), True)
        self.assertIs(is_idle(world, ("bob", "cat", 0)), False)
        self.assertIs(is_idle(world, ("cat", "ann", 1)), False)
        self.same(done(world, ("ann", "bob", 1)).rows, world.rows)
        for call in (done, crossing_of, is_idle):
            for deed, error, attributes in REFUSED:
                self.refused(error, attributes, call, meeting_world(), deed)

    def test_deeds_ascend_by_day_first(self):
        self.same(deeds_of(meeting_world()), [
            ("ann", "bob", 0), ("ann", "cat", 0), ("bob", "cat", 0), ("dan", "eve", 0), ("ann", "cat", 1),
            ("ann", "dan", 1), ("cat", "dan", 1), ("ann", "bob", 2), ("ann", "dan", 2), ("bob", "dan", 2)])
        alone = World(Web(["m"]), {"ann": ("m",)})
        self.same([deeds_of(alone), deed_count(alone)], [[], 0])
        self.same(deed_count(World(Web(["m"]), {name: ("m",) * 7 for name in "abcdef"})), 15 * 7)

    def test_refusals(self):
        world = meeting_world()
        for deed, error, attributes in REFUSED:
            self.same(refusal(world=world, deed=deed), error.__name__)
            self.refused(error, attributes, done, world, deed)

    def test_the_order_of_the_reasons(self):
        world = meeting_world()
        names = [*world.names, "a", "zoe"]
        for x, y, day in itertools.product(names, names, range(7)):
            first, second = [len(world.plans.get(name, ())) for name in (x, y)]
            wanted = None
            if first == 0 or second == 0:
                wanted = "UnknownTraveller"
            elif x == y:
                wanted = "SameTraveller"
            elif day >= min(first, second):
                wanted = "PlanOver"
            elif world[x][day] != world[y][day]:
                wanted = "UnlikeTowns"
            self.same(refusal(world, (x, y, day)), wanted)

    def test_wrong_shapes(self):
        for deed in NO_DEEDS:
            for call in (done, refusal, crossing_of, is_idle):
                self.misshapen("deed", call, example(), deed)

    def test_changes_and_deeds(self):
        world = World(Web.full(["m", "p", "q"]), {"ann": ("m", "p", "q"), "bob": ("m", "q"), "cat": ("q", "p", "q")})
        other = World(world.web, {"dan": ("q",)})
        pairs = [("ann", "bob"), ("bob", "eve")]
        for deed in (("bob", "ann", 0), ("cat", "ann", 1), ("ann", "cat", 2)):
            after = done(world, deed)
            moved = tuple([dict(pairs).get(name, name) for name in deed[:2]]) + deed[2:]
            self.assertIs(done(renamed(world, travellers=pairs), moved) == renamed(after, travellers=pairs), True)
            self.assertIs(done(renamed(world, towns=[("m", "z")]), deed) == renamed(after, towns=[("m", "z")]), True)
            self.assertIs(done(town_joined(world, "q", "p"), deed) == town_joined(after, "q", "p"), True)
            self.assertIs(done(united(world, other), deed) == united(after, other), True)


class HistoriesTest(Case):
    def test_replay(self):
        world = meeting_world()
        history = [("ann", "bob", 0), ("cat", "bob", 1), ("cat", "dan", 2)]
        worlds = [world]
        for deed in history:
            worlds.append(done(worlds[-1], deed))
        self.same(replay(world=world, history=history).rows, worlds[-1].rows)
        self.same([made.rows for made in worlds_along(world=world, history=history)], [made.rows for made in worlds])
        self.assertIs(replay(worlds[-1], back(history)) == world, True)
        self.same([made.rows for made in worlds_along(world, [])], [world.rows])
        self.same(replay(world, []).rows, world.rows)

    def test_sixty_deeds(self):
        world = full_world(6)
        history = some_history(world, 60)
        plans = world.plans
        for deed in history:
            plans = plain_done(plans, deed)
        self.same(replay(world, history).plans, {name: plans[name] for name in world.names})
        self.same(len(worlds_along(world, history)), 61)
        self.assertIs(is_leading(world, World(world.web, plans), history), True)
        self.same(replay(replay(world, history), back(history)).rows, world.rows)

    def test_a_refused_deed(self):
        world = meeting_world()
        for deed, error, _ in REFUSED:
            for at in range(4):
                right = [("ann", "cat", 1)] * at
                attributes = {"at": at, "reason": error.__name__}
                if at % 2 == 0:
                    self.refused(StepRefused, attributes, replay, world, [*right, deed, ("ann", "bob", 0)])
                    self.refused(StepRefused, attributes, worlds_along, world, [*right, deed])
                    self.assertIs(is_leading(world, world, [*right, deed]), False)

    def test_the_deeds_before_decide(self):
        world = meeting_world()
        self.refused(StepRefused, {"at": 1, "reason": "PlanOver"}, replay, world,
                     [("ann", "cat", 1), ("ann", "bob", 2), ("ann", "ann", 2)])
        self.same(replay(world, [("ann", "cat", 1), ("cat", "bob", 2)])["bob"], ("m", "m", "q", "q"))
        self.refused(StepRefused, {"at": 0, "reason": "PlanOver"}, replay, world, [("cat", "bob", 2)])

    def test_wrong_shapes(self):
        world = meeting_world()
        for history in NO_HISTORIES:
            self.misshapen("history", replay, world, history)
            self.misshapen("history", worlds_along, world, history)
            self.misshapen("history", back, history)
            self.misshapen("history", cut_history, history, -1)
            self.misshapen("history", neighbours_exchanged, world, history, -1)
            self.assertIs(is_leading(world, world, history), False)
        for at in NO_NUMBERS:
            self.misshapen("at", cut_history, [], at)
            self.misshapen("at", neighbours_exchanged, world, [], at)

    def test_the_judge(self):
        world = meeting_world()
        history = [("ann", "bob", 0), ("cat", "bob", 1), ("cat", "dan", 2)]
        target = replay(world, history)
        self.assertIs(is_leading(world=world, target=target, paper=history), True)
        self.assertIs(is_leading(target, world, history[::-1]), True)
        self.assertIs(is_leading(target, world, history), False)
        self.assertIs(is_leading(world, target, [("bob", "ann", 0), *history[1:]]), True)
        self.assertIs(is_leading(world, world, []), True)
        self.assertIs(is_leading(world, target, []), False)
        self.assertIs(is_leading(world, target, history[:2]), False)
        self.assertIs(is_leading(world, target, [*history, history[-1]]), False)
        self.assertIs(is_leading(world, target, [*history, history[-1], history[-1]]), True)
        self.assertIs(is_leading(world, target, tuple(history)), False)
        self.assertIs(is_leading(world, target, [list(deed) for deed in history]), False)
        self.assertIs(is_leading(world, target, [("ann", "bob", False), *history[1:]]), False)
        self.assertIs(is_leading(world, target, [history[0], ("cat", "bob", True), history[2]]), False)
        self.assertIs(is_leading(world, target, target), False)
        self.assertIs(is_leading(world, target, [target]), False)

    def test_the_judge_at_the_longest_history(self):
        world = example()
        self.assertIs(is_leading(world, world, [("ann", "bob", 0)] * 60), True)
        self.assertIs(is_leading(world, world, [("ann", "bob", 0)] * 62), False)

    def test_the_judge_wants_one_frame(self):
        world = meeting_world()
        plans = world.plans
        other = World(Web.full(list("mpqr")), plans)
        for paper in ([], None, [("ann", "bob", 0)]):
            self.refused(UnlikeFrames, {"part": "web"}, is_leading, world, other, paper)
            plans = {name: plan for name, plan in world if name != "ann"}
            self.refused(UnlikeFrames, {"part": "travellers"}, is_leading, world, World(world.web, plans), paper)
            self.refused(UnlikeFrames, {"part": "web"}, is_leading, world, World(other.web, plans), paper)

    def test_cut_history(self):
        history = [("ann", "bob", 0), ("cat", "bob", 1), ("cat", "dan", 2)]
        for at in range(4):
            self.same(cut_history(history=history, at=at), (history[:at], history[at:]))
        self.same(cut_history([], 0), ([], []))
        self.refused(NoStep, {"at": 4, "limit": 3}, cut_history, history, 4)
        self.refused(NoStep, {"at": 1, "limit": 0}, cut_history, [], 1)
        self.refused(NoStep, {"at": 10 ** 30 - 1, "limit": 3}, cut_history, history, 10 ** 30 - 1)

    def test_chained(self):
        first, second = [("ann", "bob", 0)], [("cat", "bob", 1), ("cat", "dan", 2)]
        self.same(chained(first=first, second=second), [("ann", "bob", 0), ("cat", "bob", 1), ("cat", "dan", 2)])
        self.same([chained([], []), chained(first, []), chained([], second)], [[], first, second])
        self.same(chained(first * 30, first * 30), first * 60)
        self.refused(TooMany, {"what": "deeds", "number": 61}, chained, first * 60, first)
        self.refused(TooMany, {"what": "deeds", "number": 120}, chained, first * 60, second * 30)

    def test_back(self):
        self.same(back(history=[("ann", "bob", 0), ("cat", "bob", 1)]), [("cat", "bob", 1), ("ann", "bob", 0)])
        self.same(back([]), [])

    def test_errors_of_the_refusals_are_own_ones(self):
        for word in ("UnknownTraveller", "SameTraveller", "PlanOver", "UnlikeTowns"):
            self.assertTrue(hasattr(errors, word))


class NeighboursTest(Case):
    def test_each_pair_of_neighbours(self):
        cases = set()
        for world in small_worlds(3, 1) + [meeting_world(), full_world(4), full_world(3)]:
            for x, y, day in plain_deeds(world.plans):
                after = plain_done(world.plans, (x, y, day))
                for other in plain_deeds(after):
                    for first, second in (((x, y, day), other), ((y, x, day), (other[1], other[0], other[2]))):
                        cases.add(self.exchange(world, first, second))
        for order in ("less", "greater"):
            self.assertLessEqual({(order, 0), (order, 1), (order, 2)}, cases)
        self.assertLessEqual({("equal", 0), "same"}, cases)

    def exchange(self, world, first, second):
        """Check one pair of deeds, and return which case it is."""
        history = [first, second]
        target = replay(world, history)
        crossings = [(first[2], world[first[0]][first[2]])]
        crossings.append((second[2], done(world, first)[second[0]][second[2]]))
        if crossings[0] == crossings[1]:
            self.refused(SameCrossing, {"crossing": crossings[0]}, neighbours_exchanged, world, history, 0)
            return "same"
        made = neighbours_exchanged(world, history, 0)
        self.same([deed[2] for deed in made], [second[2], first[2]])
        self.assertIs(is_leading(world, target, made), True)
        self.same(neighbours_exchanged(world, made, 0), history)
        kept = made[0] if first[2] > second[2] else made[1]
        self.same(kept, second if first[2] > second[2] else first)
        if first[2] == second[2]:
            self.same(made, [second, first])
        order = "less" if first[2] < second[2] else "greater" if first[2] > second[2] else "equal"
        return (order, len(set(first[:2]) & set(second[:2])))

    def test_names_are_exchanged_in_the_later_deed(self):
        world = World(Web.full(["m", "p"]), {"ann": ("m", "p", "m"), "bob": ("m", "p"), "cat": ("p", "p", "p"),
                                             "dan": ("p", "p")})
        self.same(neighbours_exchanged(world, [("ann", "bob", 0), ("cat", "bob", 1)], 0),
                  [("cat", "ann", 1), ("ann", "bob", 0)])
        self.same(neighbours_exchanged(world, [("bob", "ann", 0), ("ann", "cat", 1)], 0),
                  [("bob", "cat", 1), ("bob", "ann", 0)])
        self.same(neighbours_exchanged(world, [("ann", "bob", 0), ("ann", "bob", 1)], 0),
                  [("bob", "ann", 1), ("ann", "bob", 0)])
        self.same(neighbours_exchanged(world, [("ann", "bob", 0), ("cat", "dan", 1)], 0),
                  [("cat", "dan", 1), ("ann", "bob", 0)])
        self.same(neighbours_exchanged(world, [("cat", "bob", 1), ("ann", "bob", 0)], 0),
                  [("ann", "bob", 0), ("cat", "ann", 1)])
        self.same(neighbours_exchanged(world, [("ann", "bob", 0), ("cat", "dan", 0)], 0),
                  [("cat", "dan", 0), ("ann", "bob", 0)])

    def test_in_the_middle(self):
        world = full_world(5)
        history = some_history(world, 12)
        target = replay(world, history)
        for at in range(11):
            try:
                made = neighbours_exchanged(world=world, history=history, at=at)
            except SameCrossing:
                continue
            self.same(made[:at] + made[at + 2:], history[:at] + history[at + 2:])
            self.assertIs(is_leading(world, target, made), True)

    def test_errors(self):
        world = meeting_world()
        wrong = [("ann", "bob", 0), ("ann", "cat", 0), ("eve", "eve", 0)]
        self.refused(NoStep, {"at": 2, "limit": 3}, neighbours_exchanged, world, wrong, 2)
        self.refused(NoStep, {"at": 9, "limit": 3}, neighbours_exchanged, world, wrong, 9)
        self.refused(NoStep, {"at": 0, "limit": 0}, neighbours_exchanged, world, [], 0)
        self.refused(NoStep, {"at": 0, "limit": 1}, neighbours_exchanged, world, wrong[2:], 0)
        self.refused(StepRefused, {"at": 2, "reason": "SameTraveller"}, neighbours_exchanged, world, wrong, 0)
        self.refused(StepRefused, {"at": 2, "reason": "SameTraveller"}, neighbours_exchanged, world, wrong, 1)
        self.refused(SameCrossing, {"crossing": (0, "m")}, neighbours_exchanged, world, wrong[:2], 0)
        self.refused(SameCrossing, {"crossing": (1, "p")}, neighbours_exchanged, world,
                     [("ann", "bob", 0), ("bob", "cat", 1), ("dan", "bob", 1)], 1)


class NothingChangesTest(Case):
    def test_what_is_passed_and_returned(self):
        world = meeting_world()
        rows = world.rows
        history = [("ann", "bob", 0), ("cat", "bob", 1), ("cat", "dan", 2)]
        kept = list(history)
        target = replay(world, history)
        for call in (lambda: deeds_of(world), lambda: worlds_along(world, history), lambda: back(history),
                     lambda: cut_history(history, 1)[0], lambda: cut_history(history, 1)[1],
                     lambda: cut_history(history, 0)[1], lambda: cut_history(history, 3)[0],
                     lambda: chained(history, []), lambda: chained([], history),
                     lambda: neighbours_exchanged(world, history, 1)):
            before = repr([getattr(part, "rows", part) for part in call()])
            returned = call()
            returned.append(returned[0])
            returned[0] = None
            self.same(repr([getattr(part, "rows", part) for part in call()]), before)
            self.same(history, kept)
        is_leading(world, target, history)
        self.same([history, world.rows], [kept, rows])


if __name__ == "__main__":
    unittest.main()
