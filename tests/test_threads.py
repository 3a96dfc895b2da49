"""Threads: points 31 to 37, and the interface of crossfarers/threads.py."""

import itertools
import unittest

from crossfarers.bags import Bag
from crossfarers.deeds import deeds_of, done, is_leading, neighbours_exchanged, refusal, replay
from crossfarers.errors import NoShuffle, NotJoining, SameCrossing, StepRefused
from crossfarers.ledgers import crossings_of, legs_of, standing
from crossfarers.orders import cost
from crossfarers.threads import (
    histories_alike, history_of, joinings_of, normal_form, order_of, shortened, shuffled, split_history, threads_of,
    world_of_joinings,
)
from crossfarers.worlds import Web, World
from tests.helpers import Case
from tests.samples import (
    NO_DEEDS, NO_HISTORIES, full_world, meeting_world, plain_deeds, small_worlds, some_history,
)

NO_CROSSINGS = (
    None, True, 0, "m", [], (), {}, (0,), [0, "m"], (0, "m", "p"), (7, "m"), (-1, "m"), (True, "m"), (0, "-"),
    (0, ""), (0, None), (0, ["m"]),
)
NO_TABLES = (
    None, True, 0, "ann", [], {}, [("ann", "ann")], (("ann", "bob"),), (("ann", "ann"), ("ann", "ann")),
    (("bob", "bob"), ("ann", "ann")), (["ann", "ann"],), (("ann", "ann", "ann"),), (("ann",),), ("ann",), (1, 1),
    (("-", "-"),), (("ann", None),), (("ann", "bob"), ("bob", "bob")), (("A", "A"),),
    tuple([("n" + str(at), "n" + str(at)) for at in range(100, 113)]),
)
NO_PARTS = (
    None, True, 0, "", (), {}, {(0, "m"): [("ann", "bob", 0)]}, (((0, "m"), [("ann", "bob", 0)]),), [None], [()],
    [[(0, "m"), [("ann", "bob", 0)]]], [((0, "m"),)], [((0, "m"), [("ann", "bob", 0)], 0)], [((0, "m"), [])],
    [((0, "m"), (("ann", "bob", 0),))], [((0, "m"), None)], [((0, "m"), [("ann", "bob", 1)])],
    [((0, "m"), [("ann", "bob", 0), ("ann", "bob", 1)])], [((0, "m"), [("ann", "bob", 0)] * 61)],
    [((0, "m"), [("ann", "bob", 0)] * 30), ((0, "p"), [("ann", "bob", 0)] * 31)],
    [((0, "m"), [("ann", "bob", 0)]), ((0, "m"), [("ann", "bob", 0)])],
    [((0, "p"), [("ann", "bob", 0)]), ((0, "m"), [("ann", "bob", 0)])],
    [((1, "m"), [("ann", "bob", 1)]), ((0, "m"), [("ann", "bob", 0)])],
    [((0, "m"), [("ann", "bob", False)])], [((0, "m"), [["ann", "bob", 0]])], [((0, "m"), {})],
    [((0, "m"), [("ann", "bob", 0)]), None],
    *[[(crossing, [("ann", "bob", 0)])] for crossing in NO_CROSSINGS],
    *[[((0, "m"), [deed])] for deed in NO_DEEDS],
    *[[((0, "m"), [("ann", "bob", 0), deed])] for deed in NO_DEEDS],
)


class Tokens:
    """The tokens of a world, moved deed by deed as point 31 tells."""

    def __init__(self, world):
        self.world = world
        self.carried = {name: [(day, name) for day in range(len(plan))] for name, plan in world}

    def arrives_by(self, name, day):
        return name if day == 0 else self.carried[name][day - 1][1]

    def leaves_by(self, name, day):
        return self.carried[name][day][1]

    def do(self, x, y, day):
        row, other = self.carried[x], self.carried[y]
        self.carried[x], self.carried[y] = row[:day] + other[day:], other[:day] + row[day:]

    def joinings(self):
        tables = {}
        for name, row in self.carried.items():
            for day in range(len(row)):
                by = self.arrives_by(name, day)
                tables.setdefault((day, self.world[by][day]), []).append((by, self.leaves_by(name, day)))
        return [(crossing, tuple(sorted(tables[crossing]))) for crossing in sorted(tables)]


def plain_threads(world, history):
    """Return the thread deeds of a history, and the joinings after it, by moving tokens."""
    tokens = Tokens(world)
    threads = []
    for x, y, day in history:
        threads.append((tokens.arrives_by(x, day), tokens.arrives_by(y, day), day))
        tokens.do(x, y, day)
    return threads, tokens.joinings()


def histories(worlds, longest):
    """Return pairs of a world and a history, some for each world."""
    return [(world, some_history(world, many, step)) for world in worlds if plain_deeds(world.plans)
            for many in range(longest + 1) for step in (1, 7)]


def all_samples():
    """Return pairs of a world and a history."""
    return histories(small_worlds(2), 3) + histories(small_worlds(3, 1), 3) + histories(
        [meeting_world(), full_world(4), full_world(6)], 14)


class ThreadsTest(Case):
    def test_the_first_deed_is_its_own_thread(self):
        world = meeting_world()
        for x, y, day in deeds_of(world):
            self.same(threads_of(world, [(y, x, day)]), [(y, x, day)])
        self.same([threads_of(world=world, history=[]), history_of(world=world, threads=[])], [[], []])

    def test_tokens_move(self):
        world = meeting_world()
        history = [("ann", "bob", 0), ("cat", "bob", 1), ("cat", "dan", 2), ("cat", "ann", 0)]
        self.same(threads_of(world, history),
                  [("ann", "bob", 0), ("cat", "ann", 1), ("ann", "dan", 2), ("cat", "ann", 0)])

    def test_equal_rests_are_exchanged_too(self):
        world = World(Web(["m", "p"]), {"ann": ("m", "m", "m"), "bob": ("m", "m", "m")})
        history = [("ann", "bob", 0), ("ann", "bob", 1), ("bob", "ann", 2), ("ann", "bob", 2)]
        self.same(threads_of(world, history),
                  [("ann", "bob", 0), ("bob", "ann", 1), ("bob", "ann", 2), ("ann", "bob", 2)])

    def test_by_moving_tokens(self):
        for world, history in all_samples():
            threads, joinings = plain_threads(world, history)
            self.same(threads_of(world, history), threads)
            self.same(history_of(world, threads), history)
            self.same(joinings_of(world, threads), joinings)
            self.assertIs(world_of_joinings(world, joinings) == replay(world, history), True)
            for thread in threads:
                self.assertIs(refusal(world, thread), None)

    def test_all_lists_of_threads(self):
        for world in small_worlds(2) + small_worlds(3, 1):
            fitting = deeds_of(world)
            found = []
            for threads in itertools.product(fitting, repeat=2):
                history = history_of(world, list(threads))
                self.same(threads_of(world, history), list(threads))
                found.append(history)
            self.same(len({tuple(history) for history in found}), len(fitting) ** 2)

    def test_sixty_deeds(self):
        world = full_world(6)
        history = some_history(world, 60)
        threads = threads_of(world, history)
        self.same(history_of(world, threads), history)
        self.same(normal_form(world, normal_form(world, history)), normal_form(world, history))
        self.assertIs(is_leading(world, replay(world, history), shortened(world, history)), True)
        self.same(shuffled(world, split_history(world, history), order_of(world, history)), history)

    def test_refused_steps(self):
        world = meeting_world()
        for deed, reason in ((("ann", "zoe", 0), "UnknownTraveller"), (("ann", "ann", 9 % 7), "SameTraveller"),
                             (("ann", "cat", 2), "PlanOver"), (("bob", "ann", 1), "UnlikeTowns")):
            for call in (threads_of, split_history, order_of, normal_form, shortened):
                self.refused(StepRefused, {"at": 0, "reason": reason}, call, world, [deed])
                self.refused(StepRefused, {"at": 2, "reason": reason}, call, world,
                             [("dan", "eve", 0), ("eve", "dan", 0), deed, ("zoe", "zoe", 0)])
            for call in (history_of, joinings_of):
                self.refused(StepRefused, {"at": 1, "reason": reason}, call, world,
                             [("ann", "cat", 1), deed, ("zoe", "zoe", 0)])
            right = [("ann", "bob", 0)]
            self.refused(StepRefused, {"at": 1, "reason": reason}, histories_alike, world, right,
                         [("dan", "eve", 0), deed])
            self.refused(StepRefused, {"at": 0, "reason": reason}, histories_alike, world, [deed],
                         [("dan", "eve", 0), ("zoe", "zoe", 0)])

    def test_threads_fit_the_world_itself(self):
        world = meeting_world()
        history = [("ann", "cat", 1), ("cat", "bob", 2)]
        self.refused(StepRefused, {"at": 1, "reason": "PlanOver"}, history_of, world, history)
        self.refused(StepRefused, {"at": 1, "reason": "PlanOver"}, joinings_of, world, history)
        self.same(threads_of(world, history), [("ann", "cat", 1), ("ann", "bob", 2)])
        self.same(history_of(world, [("ann", "cat", 1), ("ann", "bob", 2)]), history)
        self.refused(StepRefused, {"at": 1, "reason": "PlanOver"}, threads_of, world, [history[0], ("ann", "bob", 2)])

    def test_wrong_shapes(self):
        world = meeting_world()
        for history in NO_HISTORIES:
            for call in (threads_of, split_history, order_of, normal_form, shortened):
                self.misshapen("history", call, world, history)
            for call in (history_of, joinings_of):
                self.misshapen("threads", call, world, history)
            self.misshapen("first", histories_alike, world, history, None)
            self.misshapen("second", histories_alike, world, [("zoe", "zoe", 0)], history)


class JoiningsTest(Case):
    def test_identities_without_deeds(self):
        world = meeting_world()
        joinings = joinings_of(world=world, threads=[])
        self.same(joinings[0], ((0, "m"), (("ann", "ann"), ("bob", "bob"), ("cat", "cat"))))
        self.same([crossing for crossing, _ in joinings], crossings_of(world))
        for crossing, table in joinings:
            self.same(table, tuple([(name, name) for name in standing(world, crossing)]))
        self.assertIs(world_of_joinings(world=world, joinings=joinings) == world, True)

    def test_images_are_exchanged(self):
        world = meeting_world()
        joinings = dict(joinings_of(world, [("ann", "bob", 0), ("cat", "ann", 0), ("ann", "dan", 1)]))
        self.same(joinings[(0, "m")], (("ann", "cat"), ("bob", "ann"), ("cat", "bob")))
        self.same(joinings[(1, "p")], (("ann", "dan"), ("cat", "cat"), ("dan", "ann")))
        self.same(joinings[(2, "q")], (("ann", "ann"), ("bob", "bob"), ("dan", "dan")))

    def test_all_joinings_make_the_class(self):
        world = World(Web.full(["m", "p"]), {"ann": ("m", "p", "m"), "bob": ("m", "m"), "cat": ("p", "p", "p")})
        rows = [[(crossing, tuple(zip(names, images))) for images in itertools.permutations(names)]
                for crossing in crossings_of(world) for names in [standing(world, crossing)]]
        found = set()
        for joinings in itertools.product(*rows):
            made = world_of_joinings(world, list(joinings))
            legs = sorted([leg for name in world.names for leg in legs_of(made[name])])
            self.same(legs, sorted([leg for name in world.names for leg in legs_of(world[name])]))
            self.same([made.begin(name) for name in made.names], [world.begin(name) for name in world.names])
            found.add(made.rows)
        deeds = [tuple(sorted(done(world, deed).plans.items())) for deed in deeds_of(world)]
        self.assertLessEqual(set(deeds), found)

    def test_no_joinings(self):
        world = meeting_world()
        right = joinings_of(world, [("ann", "bob", 0), ("ann", "dan", 1)])
        wrong = {
            "the first crossing left out": (right[1:], (0, "q")),
            "a crossing left out": (right[:2] + right[3:], (1, "p")),
            "the last crossing left": (right[:-1], (3, "q")),
            "all crossings left": ([], (0, "m")),
            "a crossing too many": (right + right[-1:], (3, "q")),
            "an unknown crossing too many": ([*right, ((6, "zoe"), ())], (6, "zoe")),
            "two crossings exchanged": ([right[1], right[0], *right[2:]], (0, "q")),
            "a crossing twice": ([right[0], right[0], *right[1:]], (0, "m")),
            "an empty table": ([((0, "m"), ()), *right[1:]], (0, "m")),
            "a traveller too few": ([((0, "m"), (("ann", "bob"), ("bob", "ann"))), *right[1:]], (0, "m")),
            "a traveller too many": ([right[0], ((0, "q"), (("cat", "cat"), *right[1][1])), *right[2:]], (0, "q")),
            "another traveller": ([*right[:-1], ((3, "q"), (("dan", "dan"),))], (3, "q")),
            "an unknown town": ([((0, "x"), right[0][1]), *right[1:]], (0, "x")),
            "another town": ([((0, "p"), right[0][1]), *right[1:]], (0, "p")),
            "another day": ([*right[:-1], ((4, "q"), right[-1][1])], (4, "q")),
            "the first of two": ([right[0], ((5, "m"), ()), ((6, "m"), ()), *right[3:]], (5, "m")),
        }
        for what, (joinings, crossing) in wrong.items():
            with self.subTest(what):
                self.refused(NotJoining, {"crossing": crossing}, world_of_joinings, world, joinings)

    def test_wrong_shapes(self):
        world = meeting_world()
        right = joinings_of(world, [])
        for joinings in (None, True, 0, "", (), {}, tuple(right), dict(right), [None], [()], [right[0], list(right[1])],
                         [right[0] + ((),)], [right[0][:1]], [((0, "m"), list(right[0][1]))], right + [0]):
            self.misshapen("joinings", world_of_joinings, world, joinings)
        for table in NO_TABLES:
            self.misshapen("joinings", world_of_joinings, world, [((0, "x"), table)])
            self.misshapen("joinings", world_of_joinings, world, [right[0], ((0, "x"), table)])
        for crossing in NO_CROSSINGS:
            self.misshapen("joinings", world_of_joinings, world, [(crossing, right[0][1])])
        self.refused(NotJoining, {"crossing": (0, "x")}, world_of_joinings, world, [((0, "x"), ())] * 100)
        twelve = tuple([("n" + str(at), "n" + str(at)) for at in range(100, 112)])
        self.refused(NotJoining, {"crossing": (0, "m")}, world_of_joinings, world, [((0, "m"), twelve)])

    def test_each_arrival_goes_on_as_its_image(self):
        world = World(Web.full(["m", "p", "q"]), {"ann": ("m", "p", "q"), "bob": ("m", "p", "p", "p"), "cat": ("m",)})
        table = (("ann", "cat"), ("bob", "ann"), ("cat", "bob"))
        made = world_of_joinings(world, [
            ((0, "m"), table), ((1, "p"), (("ann", "bob"), ("bob", "ann"))), ((2, "p"), (("bob", "bob"),)),
            ((2, "q"), (("ann", "ann"),)), ((3, "p"), (("bob", "bob"),))])
        self.same(made.plans, {"ann": ("m",), "bob": ("m", "p", "p", "p"), "cat": ("m", "p", "q")})

    def test_seven_days(self):
        world = World(Web(["m"]), {"ann": ("m",) * 7, "bob": ("m",) * 7})
        threads = [("ann", "bob", day) for day in range(7)]
        joinings = joinings_of(world, threads)
        self.same(joinings, [((day, "m"), (("ann", "bob"), ("bob", "ann"))) for day in range(7)])
        self.same(world_of_joinings(world, joinings).rows, world.rows)


class SplitTest(Case):
    def test_parts_and_order(self):
        world = meeting_world()
        history = [("ann", "dan", 1), ("ann", "bob", 0), ("dan", "eve", 0), ("bob", "cat", 1), ("cat", "bob", 0)]
        self.same(order_of(world=world, history=history), [(1, "p"), (0, "m"), (0, "q"), (1, "p"), (0, "m")])
        self.same(split_history(world=world, history=history), [
            ((0, "m"), [("ann", "bob", 0), ("cat", "bob", 0)]), ((0, "q"), [("dan", "eve", 0)]),
            ((1, "p"), [("ann", "dan", 1), ("ann", "cat", 1)])])
        self.same([split_history(world, []), order_of(world, [])], [[], []])

    def test_by_moving_tokens(self):
        for world, history in all_samples():
            threads, _ = plain_threads(world, history)
            order = [(day, world[p][day]) for p, _, day in threads]
            self.same(order_of(world, history), order)
            parts = [(crossing, [thread for at, thread in enumerate(threads) if order[at] == crossing])
                     for crossing in sorted(set(order))]
            self.same(split_history(world, history), parts)
            self.same(shuffled(world, parts, order), history)

    def test_each_good_order_leads_to_one_world(self):
        world = meeting_world()
        history = [("ann", "dan", 1), ("ann", "bob", 0), ("dan", "eve", 0), ("bob", "cat", 1), ("cat", "bob", 0)]
        target = replay(world, history)
        parts, order = split_history(world, history), order_of(world, history)
        for row in set(itertools.permutations(order)):
            made = shuffled(world=world, parts=parts, order=list(row))
            self.assertIs(is_leading(world, target, made), True)
            self.assertIs(histories_alike(world, history, made), True)
            self.same([split_history(world, made), order_of(world, made)], [parts, list(row)])

    def test_no_shuffle(self):
        world = meeting_world()
        parts = [((0, "m"), [("ann", "bob", 0), ("cat", "bob", 0)]), ((0, "q"), [("dan", "eve", 0)])]
        self.same(shuffled(world, [], []), [])
        for order, crossing in (([], (0, "m")), ([(0, "m")], (0, "m")), ([(0, "m"), (0, "m")], (0, "q")),
                                ([(0, "q"), (0, "m")], (0, "m")), ([(0, "m")] * 3 + [(0, "q")], (0, "m")),
                                ([(0, "m"), (0, "m"), (0, "q"), (0, "q")], (0, "q")),
                                ([(0, "m"), (0, "m"), (0, "q"), (6, "x")], (6, "x")),
                                ([(0, "m"), (0, "a")], (0, "a")), ([(0, "zoe")] * 60, (0, "m"))):
            self.refused(NoShuffle, {"crossing": crossing}, shuffled, world, parts, order)
        self.refused(NoShuffle, {"crossing": (0, "m")}, shuffled, world, [], [(0, "q"), (0, "m")])
        self.refused(NoShuffle, {"crossing": (0, "x")}, shuffled, world, [((0, "x"), [("zoe", "zoe", 0)])], [])

    def test_steps_that_do_not_fit(self):
        world = meeting_world()
        parts = [((0, "m"), [("ann", "bob", 0), ("dan", "eve", 0)]), ((0, "q"), [("dan", "dan", 0)]),
                 ((1, "zoe"), [("zoe", "ann", 1)])]
        m, q, zoe = (0, "m"), (0, "q"), (1, "zoe")
        for order, at, reason in (([m, m, q, zoe], 1, "WrongCrossing"), ([q, m, m, zoe], 0, "SameTraveller"),
                                  ([m, q, zoe, m], 1, "SameTraveller"), ([zoe, m, q, m], 0, "UnknownTraveller"),
                                  ([m, zoe, q, m], 1, "UnknownTraveller")):
            self.refused(StepRefused, {"at": at, "reason": reason}, shuffled, world, parts, order)
        for thread, reason in ((("ann", "dan", 0), "UnlikeTowns"), (("eve", "ann", 1), "PlanOver"),
                               (("ann", "cat", 1), "WrongCrossing")):
            crossing = (thread[2], "x")
            self.refused(StepRefused, {"at": 0, "reason": reason}, shuffled, world, [(crossing, [thread])], [crossing])
        self.refused(StepRefused, {"at": 0, "reason": "WrongCrossing"}, shuffled, world,
                     [((0, "m"), [("dan", "eve", 0)]), ((0, "q"), [("zoe", "zoe", 0)])], [m, q])
        self.same(shuffled(world, [((1, "p"), [("ann", "cat", 1)])], [(1, "p")]), [("ann", "cat", 1)])

    def test_wrong_shapes(self):
        world = meeting_world()
        for parts in NO_PARTS:
            self.misshapen("parts", shuffled, world, parts, [])
            self.misshapen("parts", shuffled, world, parts, None)
        for order in (None, True, 0, "", (), {}, ((0, "m"),), [(0, "m")] * 61, *[[part] for part in NO_CROSSINGS],
                      [(0, "m"), None]):
            self.misshapen("order", shuffled, world, [((0, "x"), [("zoe", "zoe", 0)])], order)
        longest = [((0, "m"), [("ann", "bob", 0)] * 60)]
        self.same(shuffled(world, longest, [(0, "m")] * 60), [("ann", "bob", 0)] * 60)


class FormsTest(Case):
    def test_normal_form(self):
        world = meeting_world()
        history = [("dan", "eve", 0), ("ann", "bob", 0), ("bob", "eve", 1), ("cat", "bob", 0), ("eve", "ann", 2)]
        self.same(normal_form(world=world, history=history), [
            ("ann", "bob", 2), ("ann", "dan", 1), ("ann", "bob", 0), ("cat", "bob", 0), ("dan", "eve", 0)])
        self.same(normal_form(world, []), [])

    def test_each_normal_form(self):
        for world, history in all_samples():
            form = normal_form(world, history)
            self.same(threads_of(world, form), form)
            self.same(split_history(world, form), split_history(world, history))
            order = [(-day, town) for day, town in order_of(world, form)]
            self.same(order, sorted(order))
            self.assertIs(replay(world, form) == replay(world, history), True)
            self.assertIs(histories_alike(world, history, form), True)

    def test_alike_are_the_same_normal_forms(self):
        for world in [meeting_world(), *small_worlds(3, 1)[::17]]:
            deeds = deeds_of(world) + [(y, x, day) for x, y, day in deeds_of(world)]
            rows = [[first, second] for first in deeds for second in deeds
                    if refusal(done(world, first), second) is None]
            for first in rows[::3]:
                for second in rows[::5]:
                    self.same(histories_alike(world=world, first=first, second=second),
                              normal_form(world, first) == normal_form(world, second))

    def test_alike_by_exchanging_neighbours(self):
        world = meeting_world()
        history = [("dan", "eve", 0), ("ann", "bob", 0), ("bob", "eve", 1), ("cat", "bob", 0), ("eve", "ann", 2)]
        found = {tuple(history)}
        wave = [history]
        while wave:
            later = []
            for row in wave:
                for at in range(len(row) - 1):
                    try:
                        made = neighbours_exchanged(world, row, at)
                    except SameCrossing:
                        continue
                    self.assertIs(histories_alike(world, history, made), True)
                    if tuple(made) not in found:
                        found.add(tuple(made))
                        later.append(made)
            wave = later
        parts, order = split_history(world, history), order_of(world, history)
        wanted = {tuple(shuffled(world, parts, list(row))) for row in itertools.permutations(order)}
        self.same(sorted(found), sorted(wanted))

    def test_unlike_histories(self):
        world = meeting_world()
        self.assertIs(histories_alike(world, [("ann", "bob", 0)], [("bob", "ann", 0)]), False)
        self.assertIs(histories_alike(world, [("ann", "bob", 0)], []), False)
        self.assertIs(histories_alike(world, [], [("ann", "bob", 0)]), False)
        self.assertIs(histories_alike(world, [("ann", "bob", 0), ("bob", "cat", 0)],
                                      [("bob", "cat", 0), ("ann", "bob", 0)]), False)
        self.assertIs(histories_alike(world, [], []), True)

    def test_shortened(self):
        world = meeting_world()
        history = [("ann", "bob", 0), ("ann", "bob", 0), ("cat", "bob", 0), ("dan", "eve", 0), ("ann", "cat", 0)]
        self.same(shortened(world=world, history=history), [("ann", "bob", 0), ("bob", "cat", 0), ("dan", "eve", 0)])
        self.same(shortened(world, history[:2]), [])
        self.same(shortened(world, []), [])

    def test_each_shortened_form(self):
        for world, history in all_samples():
            form = shortened(world, history)
            joinings = joinings_of(world, threads_of(world, history))
            self.same(joinings_of(world, threads_of(world, form)), joinings)
            self.same(len(form), sum(cost(table) for _, table in joinings))
            self.same(normal_form(world, form), form)
            self.same(shortened(world, form), form)
            self.assertLessEqual(len(form), len(history))

    def test_no_history_with_these_joinings_is_shorter(self):
        world = World(Web.full(["m", "p"]), {"ann": ("m", "p"), "bob": ("m", "p"), "cat": ("m", "m")})
        fewest = {}
        for many in range(5):
            for threads in itertools.product(deeds_of(world), repeat=many):
                fewest.setdefault(tuple(joinings_of(world, list(threads))), many)
        for joinings, many in fewest.items():
            threads = next(list(row) for row in itertools.product(deeds_of(world), repeat=many)
                           if tuple(joinings_of(world, list(row))) == joinings)
            self.same(len(shortened(world, history_of(world, threads))), many)


class NothingChangesTest(Case):
    def test_what_is_passed_and_returned(self):
        world = meeting_world()
        history = [("ann", "bob", 0), ("cat", "bob", 1), ("ann", "cat", 0)]
        threads, parts, order = threads_of(world, history), split_history(world, history), order_of(world, history)
        joinings = joinings_of(world, threads)
        passed = repr([history, threads, parts, order, joinings, world.rows])
        for call in (lambda: threads_of(world, history), lambda: history_of(world, threads),
                     lambda: joinings_of(world, threads), lambda: order_of(world, history),
                     lambda: shuffled(world, parts, order), lambda: normal_form(world, history),
                     lambda: shortened(world, history), lambda: split_history(world, history)):
            wanted = repr(call())
            returned = call()
            returned.append(returned.pop(0))
            self.same(repr(call()), wanted)
        split_history(world, history)[0][1].clear()
        world_of_joinings(world, joinings)
        histories_alike(world, history, history)
        self.same(repr([history, threads, parts, order, joinings, world.rows]), passed)
        self.same(repr(split_history(world, history)), repr(parts))
        self.same(Bag(order)[(0, "m")], 2)


if __name__ == "__main__":
    unittest.main()
