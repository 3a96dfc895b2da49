"""What the document promises over the whole program: points 3, 5, 18, 40 and 41."""

import unittest

from crossfarers.books import Book
from crossfarers.canon import is_town_pairing, town_pairing, traveller_pairing
from crossfarers.claims import judged
from crossfarers.classes import between
from crossfarers.deeds import done, is_leading
from crossfarers.errors import UnlikeClasses, UnlikeFrames
from crossfarers.fewest import (
    bound_table, day_bound, fewest, is_bound_table, is_least_history, least_history, least_row, map_count, maps_on,
    row_cost, step_cost,
)
from crossfarers.lengths import has_length, history_of_length, lengths_upto, parity
from crossfarers.repairs import differing, distance, is_repair, least_repair
from crossfarers.stretches import is_verdict_within, one_class_within, verdict_within
from crossfarers.verdicts import check_class, is_verdict, one_class, sorted_history, unlike_legs, verdict
from crossfarers.worlds import Web, World, check_frames
from tests.helpers import Case
from tests.samples import example, full_world, meeting_world, small_worlds

OF_FRAMES = {
    "check_frames": check_frames, "one_class": one_class, "unlike_legs": unlike_legs, "verdict": verdict,
    "is_leading": lambda world, target: is_leading(world, target, None),
    "is_verdict": lambda world, target: is_verdict(world, target, None),
    "one_class_within": lambda world, target: one_class_within(world, target, ["nowhere"]),
    "verdict_within": lambda world, target: verdict_within(world, target, ["nowhere"]),
    "is_verdict_within": lambda world, target: is_verdict_within(world, target, ["nowhere"], None),
    "distance": distance, "differing": differing, "least_repair": least_repair,
    "is_repair": lambda world, target: is_repair(world, target, None),
    "class claims": lambda world, target: judged(world, ("class", target, None)),
    "within claims": lambda world, target: judged(world, ("within", target, None, None)),
    "fewest claims": lambda world, target: judged(world, ("fewest", target, None, None, None)),
    "claims in books": lambda world, target: Book(world).claim(("class", target, None)),
}
OF_CLASSES = {
    "check_class": check_class, "sorted_history": sorted_history,
    "map_count": lambda world, target: map_count(world, target, 0),
    "maps_on": lambda world, target: maps_on(world, target, 0),
    "step_cost": lambda world, target: step_cost(world, target, 0, (), ()),
    "row_cost": lambda world, target: row_cost(world, target, []),
    "fewest": fewest, "day_bound": day_bound, "least_row": least_row, "least_history": least_history,
    "bound_table": bound_table, "is_bound_table": lambda world, target: is_bound_table(world, target, None, 0),
    "is_least_history": lambda world, target: is_least_history(world, target, None, None),
    "parity": parity, "has_length": lambda world, target: has_length(world, target, 0),
    "lengths_upto": lambda world, target: lengths_upto(world, target, 60),
    "history_of_length": lambda world, target: history_of_length(world, target, 0),
    "between": between,
}


class WholeTest(Case):
    def test_frames(self):
        world = full_world(6)
        fewer = World(world.web, {name: plan for name, plan in world if name != "cat"})
        named = World(world.web, {**fewer.plans, "cid": ("a",)})
        wider = World(Web.full(list("abcdefg") + ["nowhere"]), {"ann": ("a",)})
        for call in (*OF_FRAMES.values(), *OF_CLASSES.values()):
            for other in (fewer, named):
                self.refused(UnlikeFrames, {"part": "travellers"}, call, world, other)
                self.refused(UnlikeFrames, {"part": "travellers"}, call, other, world)
            self.refused(UnlikeFrames, {"part": "web"}, call, world, wider)
            self.refused(UnlikeFrames, {"part": "web"}, call, wider, world)
            ways = World(Web(list("abcdefgh")), {name: ("a",) for name in world.names})
            self.refused(UnlikeFrames, {"part": "web"}, call, world, ways)

    def test_classes(self):
        world = full_world(6)
        for town, form in (("b", "start"), ("a", "leg")):
            other = World(world.web, {**world.plans, "dan": (town,)})
            paper = verdict(world, other)
            self.same(paper[0], form)
            for call in OF_CLASSES.values():
                self.refused(UnlikeClasses, {"paper": paper}, call, world, other)
                self.refused(UnlikeClasses, {"paper": verdict(other, world)}, call, other, world)

    def test_pairings_ask_for_no_frame(self):
        world = meeting_world()
        other = World(Web(["x", "y"]), {"zoe": ("x",)})
        self.same([town_pairing(world, other), traveller_pairing(world, other), is_town_pairing(world, other, [])],
                  [None, None, False])

    def test_equal_calls_give_equal_answers(self):
        for world in [example()[0], *small_worlds(2)[::29]]:
            for call in (verdict, unlike_legs, one_class, differing, distance, fewest, bound_table, least_row,
                         sorted_history, between, parity):
                target = World(world.web, world.plans)
                self.same(call(world, target), call(target, world))
                self.same(call(world, target), call(world, target))

    def test_answers_of_one_class_do_not_depend_on_each_other(self):
        world, target = example()
        moved = done(world, ("ann", "cat", 0))
        wanted = [bound_table(world, target), least_history(world, target), verdict(world, target)]
        for answer in (bound_table(world, target), least_history(world, target), verdict(world, target)[1],
                       bound_table(world, moved), differing(world, target)):
            answer.clear()
        for entry in bound_table(world, target):
            entry.clear()
        self.same([bound_table(world, target), least_history(world, target), verdict(world, target)], wanted)


if __name__ == "__main__":
    unittest.main()
