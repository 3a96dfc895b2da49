"""Ends of errands and where they part: point 95, and the interface of crossfarers/runs.py."""

import time
import unittest

from crossfarers.classes import class_count, class_worlds
from crossfarers.errands import Errand
from crossfarers.errors import ErrandStopped, TooMany
from crossfarers.runs import alike_on, end_of, parting_rank
from crossfarers.worlds import Web, World
from tests.helpers import Case
from tests.samples import full_world, meeting_world
from tests.test_diaries import all_world, even_world, zero_world

TEXTS = (
    "", "exchange ann bob 0", "exchange bob ann 0", "exchange ann bob 1", "exchange ann cat 0", "bring ann 1 q",
    "bring bob 1 q", "exchange ann bob 0\nexchange ann bob 0", "if at ann 1 p\nexchange ann bob 0\nend",
    "while at ann 0 m\nend", "exchange ann zoe 0", "each $v 0 m\nexchange $v bob 1\nend",
    "bring ann 1 m\nbring bob 2 p",
    "if at ann 1 q\nexchange ann bob 0\nelse\nexchange ann cat 0\nend", "bring cat 1 p",
    "if over cat 2\nbring ann 5 q\nend",
)


def twelve_world():
    """Return a world with a class of 12 worlds."""
    plans = {"ann": ("m", "p"), "bob": ("m", "q"), "cat": ("m", "m"), "dan": ("m", "m")}
    return World(Web.full(["m", "p", "q"]), plans)


def plain_end(world, errand):
    """Return the plans at the end, or None if the errand stops."""
    try:
        return errand(world)[1].plans
    except ErrandStopped:
        return None


class RunsTest(Case):
    def test_ends(self):
        world = meeting_world()
        self.same(end_of(world=world, errand=Errand("exchange ann bob 0")).rows,
                  Errand("exchange ann bob 0")(world)[1].rows)
        self.assertIs(end_of(world, Errand("")) == world, True)
        for text in ("exchange ann zoe 0", "while at ann 0 m\nend", "exchange ann bob 0\nbring eve 6 m"):
            self.assertIs(end_of(world, Errand(text)), None)

    def test_against_runs_on_each_world(self):
        errands = [Errand(text) for text in TEXTS]
        stops = 0
        for world in (even_world(), all_world(), zero_world()):
            worlds = class_worlds(world)
            for first in errands:
                for second in errands:
                    alike = [plain_end(one, first) == plain_end(one, second) for one in worlds]
                    for one, wanted in zip(worlds, alike):
                        self.same(alike_on(world=one, first=first, second=second), wanted)
                    wanted = alike.index(False) if False in alike else None
                    self.same(parting_rank(world=world, first=first, second=second), wanted)
                    self.same(parting_rank(worlds[-1], first, second), wanted)
                stops += sum(plain_end(one, first) is None for one in worlds)
        self.assertGreater(stops, 5)

    def test_stops_are_alike_wherever_and_why(self):
        world = meeting_world()
        stopped = [Errand(text) for text in ("exchange ann zoe 0", "exchange ann bob 0\nbring eve 6 m",
                                             "while at ann 0 m\nend", "bring ann 0 x")]
        for first in stopped:
            for second in stopped:
                self.assertIs(alike_on(world, first, second), True)
            self.assertIs(alike_on(world, first, Errand("")), False)
            self.assertIs(alike_on(world, Errand("exchange ann bob 0"), first), False)

    def test_ends_are_worlds_and_not_histories(self):
        world = meeting_world()
        self.assertIs(alike_on(world, Errand(""), Errand("exchange ann bob 0\nexchange bob ann 0")), True)
        self.assertIs(alike_on(world, Errand(""), Errand("exchange ann bob 0")), False)
        self.assertIs(parting_rank(even_world(), Errand(""), Errand("exchange ann bob 0\nexchange ann bob 0")), None)

    def test_too_many_worlds(self):
        world = twelve_world()
        self.same(class_count(world), 12)
        for first, second in (("", ""), ("", "exchange ann bob 0"), ("while at ann 0 m\nend", "bring zoe 0 m")):
            first, second = Errand(first), Errand(second)
            wanted = [rank for rank, one in enumerate(class_worlds(world)) if not alike_on(one, first, second)]
            self.same(parting_rank(world, first, second), wanted[0] if wanted else None)
            for more, count in ((meeting_world(), 54), (full_world(6), class_count(full_world(6)))):
                self.refused(TooMany, {"what": "worlds", "number": count}, parting_rank, more, first, second)
        more = World(world.web, {"ann": ("m", "p"), "bob": ("m", "p"), "cat": ("m", "q"), "dan": ("m", "q"),
                                 "eve": ("m", "p"), "fay": ("m", "p")})
        self.same(class_count(more), 15)
        self.refused(TooMany, {"what": "worlds", "number": 15}, parting_rank, more, Errand(""), Errand(""))

    def test_the_worlds_stay(self):
        world = even_world()
        rows = world.rows
        parting_rank(world, Errand("exchange ann bob 0"), Errand("bring ann 1 q"))
        self.same(world.rows, rows)

    def test_in_good_time_at_the_limits(self):
        begin = time.perf_counter()
        loop = Errand("while at ann 0 m\nbring ann 1 p\nbring ann 1 q\nend")
        self.assertIs(parting_rank(twelve_world(), loop, loop), None)
        self.same(parting_rank(twelve_world(), loop, Errand("")), 0)
        self.assertLess(time.perf_counter() - begin, 20)


if __name__ == "__main__":
    unittest.main()
