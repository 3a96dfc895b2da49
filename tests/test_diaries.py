"""Diaries: points 80 to 85, and the interface of crossfarers/diaries.py."""

import itertools
import time
import unittest

from crossfarers.bags import Bag
from crossfarers.classes import class_count, class_worlds, rank_of
from crossfarers.diaries import (
    Diary, first_unfit, fit_run, is_run, is_wrong_set, is_wrong_table, least_wrong, may_be, must_be, wrong_number,
    wrong_table,
)
from crossfarers.errors import TooMany, UnknownTown, UnknownTraveller
from crossfarers.lengths import length_rule
from crossfarers.worlds import Web, World
from tests.helpers import Case
from tests.samples import NO_NUMBERS, example, meeting_world, plain_deeds, plain_done, same_plans
from tests.test_classes import forty_world, week_world

NO_GAPS = (
    None, True, 0, "", {}, (0, 0), [0], [None], [(0,)], [(0, 0, 0)], [[0, 0]], [(True, 1)], [(0, True)], [(False, 0)],
    [(1, 0)], [(0, 7)], [(7, 7)], [(-1, 0)], [(0, None)], [("0", 1)], [(0, [1])], [(0, 6), (0, 6), (0, 1)],
    [(0, 2)] * 7, [(0, 0)] * 8, [(0, 1), (0, 0), None], {(0, 1): 1}, "ab",
)
NO_NOTES = (
    None, True, 0, "", (), [], {}, ("ann", 0, "m"), (0, "ann", 0), (0, "ann", 0, "m", 0), [0, "ann", 0, "m"],
    (True, "ann", 0, "m"), (False, "ann", 0, "m"), (-1, "ann", 0, "m"), (3, "ann", 0, "m"), (None, "ann", 0, "m"),
    ("0", "ann", 0, "m"), (0, "-", 0, "m"), (0, "A", 0, "m"), (0, None, 0, "m"), (0, ["ann"], 0, "m"),
    (0, "ann", 7, "m"), (0, "ann", True, "m"), (0, "ann", None, "m"), (0, "ann", 0, "A"), (0, "ann", 0, ""),
    (0, "ann", 0, None), (0, "ann", 0, ["m"]), (10 ** 29, "ann", 0, "m"),
)
NO_SWITCHES = (None, 0, 1, "", "True", [], (), {}, [True])
SWITCHES = ({}, {"anywhere": False}, {"anywhere": True})
PLAIN = (fit_run, first_unfit, wrong_number, least_wrong, wrong_table)
JUDGES = (is_run, is_wrong_set, lambda *some, **more: is_wrong_table(*some, 0, **more))
ASKING = (may_be, must_be)


def even_world():
    """Return a world of the rule "even" with a class of 6 worlds, in which equal rests go on."""
    return World(Web.full(["m", "p", "q"]), {"ann": ("m", "p", "p"), "bob": ("m", "p", "m"), "cat": ("m", "q")})


def all_world():
    """Return a world of the rule "all" with a class of 4 worlds."""
    return World(Web.full(["m", "p"]), {"ann": ("m", "p", "p"), "bob": ("m", "m", "p"), "cat": ("p", "p")})


def zero_world():
    """Return a world of the rule "zero"."""
    return World(Web.full(["m", "p"]), {"ann": ("m", "p"), "bob": ("p", "m", "m")})


def exact_leads(world):
    """Return for each number of deeds up to 6 and each rank the ranks to which exactly so many deeds lead."""
    worlds = class_worlds(world)
    ranks = {one.rows: rank for rank, one in enumerate(worlds)}
    one_deed = [{ranks[tuple(sorted(plain_done(one.plans, deed).items()))] for deed in plain_deeds(one.plans)}
                for one in worlds]
    leads = [[{rank} for rank in range(len(worlds))]]
    for _ in range(6):
        leads.append([{there for here in row for there in one_deed[here]} for row in leads[-1]])
    return leads


def all_runs(world, diary, anywhere, leads):
    """Return all runs of the diary, ascending."""
    runs = [[rank] for rank in range(class_count(world)) if anywhere or rank == rank_of(world)]
    for low, high in diary.gaps:
        runs = [run + [there] for run in runs
                for there in sorted({rank for number in range(low, high + 1) for rank in leads[number][run[-1]]})]
    return runs


def broken_by(worlds, diary, run):
    """Return the indexes of the notes that the run breaks."""
    return [at for at, (moment, name, day, place) in enumerate(diary.notes)
            if worlds[run[moment]].place(name, day) != place]


def some_diaries(world):
    """Return diaries with fitting notes, contradicting ones, equal ones, and gaps of all kinds."""
    first, last = world.names[0], world.names[-1]
    gaps = [[], [(0, 0)], [(1, 1)], [(2, 2)], [(0, 1)], [(0, 3)], [(3, 3)], [(0, 0), (0, 0)], [(1, 1), (1, 2)],
            [(2, 2), (0, 1)], [(6, 6), (1, 6)], [(0, 1), (2, 3)], [(1, 1), (1, 1), (1, 1)]]
    found = []
    for at, row in enumerate(gaps):
        moments = len(row) + 1
        found.append(Diary(row))
        found.append(Diary(row, [(moments - 1, first, 1, "p"), (0, last, 2, "-")]))
        found.append(Diary(row, [(moments - 1, first, 1, "p"), (0, first, 1, "m"), (moments - 1, last, 1, "p")]))
        found.append(Diary(row, [(moment, name, day, "mp-"[(moment + day + at) % 3]) for moment in range(moments)
                                 for name in (first, last) for day in (1, 2)][:12]))
        found.append(Diary(row, [(moments // 2, first, 2, "p"), (moments // 2, first, 2, "-")] * 2))
    return found


class DiaryTest(Case):
    def test_properties(self):
        diary = Diary([(0, 2), (1, 1)], [(2, "ann", 0, "m"), (0, "bob", 6, "-"), (0, "bob", 6, "-")])
        self.same(diary.gaps, ((0, 2), (1, 1)))
        self.same(diary.notes, ((2, "ann", 0, "m"), (0, "bob", 6, "-"), (0, "bob", 6, "-")))
        self.same(diary.moments, 3)
        self.same([Diary(gaps=()).gaps, Diary([], notes=()).notes, Diary(()).moments], [(), (), 1])
        self.same(Diary(((0, 6), (6, 6)), ((1, "ann", 3, "p"),)).gaps, ((0, 6), (6, 6)))
        self.same(Diary([(0, 0)] * 7).moments, 8)
        self.same(len(Diary([], [(0, "ann", 0, "m")] * 12).notes), 12)
        self.same(Diary([(2, 2)] * 6).moments, 7)

    def test_wrong_gaps(self):
        for gaps in NO_GAPS:
            self.misshapen("gaps", Diary, gaps)
            self.misshapen("gaps", Diary, gaps, None)

    def test_wrong_notes(self):
        gaps = [(0, 1), (0, 1)]
        for notes in (None, True, 0, "", {}, (0, "ann", 0, "m"), {(0, "ann", 0, "m"): 1}, "note",
                      [(0, "ann", 0, "m")] * 13):
            self.misshapen("notes", Diary, gaps, notes)
        for note in NO_NOTES:
            self.misshapen("notes", Diary, gaps, [note])
            self.misshapen("notes", Diary, gaps, ((2, "ann", 0, "m"), note))
        self.misshapen("notes", Diary, [], [(1, "ann", 0, "m")])
        self.misshapen("notes", Diary, [(0, 0)] * 7, [(8, "ann", 0, "m")])
        self.same(Diary([(0, 0)] * 7, [(7, "ann", 0, "m")]).notes, ((7, "ann", 0, "m"),))

    def test_upto(self):
        notes = [(2, "ann", 0, "m"), (0, "bob", 6, "-"), (1, "cat", 1, "p"), (0, "ann", 1, "q")]
        diary = Diary([(0, 2), (1, 1)], notes)
        for moment in range(3):
            part = diary.upto(moment)
            self.same([part.gaps, part.notes], [diary.gaps[:moment],
                                                tuple(note for note in notes if note[0] <= moment)])
        self.assertIs(diary.upto(moment=2) == diary, True)
        for moment in (*NO_NUMBERS, 3, 4, 10 ** 29):
            self.misshapen("moment", diary.upto, moment)

    def test_without(self):
        notes = [(2, "ann", 0, "m"), (0, "bob", 6, "-"), (1, "cat", 1, "p")]
        diary = Diary([(0, 2), (1, 1)], notes)
        for many in range(4):
            for some in itertools.combinations(range(3), many):
                part = diary.without(list(some))
                self.same(part.notes, tuple(note for at, note in enumerate(notes) if at not in some))
                self.same(part.gaps, diary.gaps)
        self.assertIs(diary.without(numbers=[]) == diary, True)
        for numbers in (None, True, 0, "", (), (0,), {}, {0: 1}, [3], [-1], [True], [False], [0, True], [None], ["0"],
                        [[0]], [0, 0], [1, 0], [0, 1, 3], [0, 2, 1], [0, 1, 1]):
            self.misshapen("numbers", diary.without, numbers)
        self.misshapen("numbers", Diary([]).without, [0])

    def test_equality(self):
        diary = Diary([(0, 2)], [(0, "ann", 0, "m"), (1, "ann", 0, "m")])
        self.assertIs(diary == Diary(((0, 2),), ((0, "ann", 0, "m"), (1, "ann", 0, "m"))), True)
        for other in (Diary([(0, 2)], [(1, "ann", 0, "m"), (0, "ann", 0, "m")]), Diary([(0, 2)], [(0, "ann", 0, "m")]),
                      Diary([(1, 2)], diary.notes), Diary([(0, 2), (0, 0)], diary.notes), Diary([(0, 2)]),
                      (diary.gaps, diary.notes), None, 0, "diary", meeting_world()):
            self.assertIs(diary == other, False)
            self.assertIs(diary != other, True)


class RunsTest(Case):
    def test_the_rules_of_the_worlds(self):
        self.same([length_rule(world()) for world in (zero_world, even_world, all_world)], ["zero", "even", "all"])
        self.same([class_count(world()) for world in (zero_world, even_world, all_world)], [1, 6, 4])

    def test_against_all_runs(self):
        for world in (zero_world(), even_world(), all_world(), same_plans((("m", "p"), 2)), example()[0]):
            leads, worlds = exact_leads(world), class_worlds(world)
            for diary in some_diaries(world)[::3 if len(worlds) < 7 else 11]:
                if len(worlds) > 6 and diary.moments > 3:
                    continue
                for switch in SWITCHES:
                    anywhere = switch.get("anywhere", False)
                    runs = all_runs(world, diary, anywhere, leads)
                    self.look_at_runs(world, worlds, diary, runs, switch)
                    self.look_at_moments(world, worlds, diary, leads, switch)

    def test_what_may_and_must_be(self):
        for world in (zero_world(), even_world(), all_world()):
            leads, worlds = exact_leads(world), class_worlds(world)
            for at, diary in enumerate(some_diaries(world)[1::3]):
                switch = SWITCHES[at % 3]
                runs = all_runs(world, diary, switch.get("anywhere", False), leads)
                fitting = [run for run in runs if not broken_by(worlds, diary, run)]
                for moment, day, place in itertools.product(range(diary.moments), range(1, 3), "mp-"):
                    name = world.names[(moment + day + at) % len(world.names)]
                    met = [worlds[run[moment]].place(name, day) == place for run in fitting]
                    note = (moment, name, day, place)
                    self.same(may_be(world=world, diary=diary, note=note, **switch), any(met))
                    self.same(must_be(world=world, diary=diary, note=note, **switch), all(met))

    def look_at_runs(self, world, worlds, diary, runs, switch):
        """Compare the functions of one diary with all of its runs."""
        broken = [broken_by(worlds, diary, run) for run in runs]
        fitting = [run for run, numbers in zip(runs, broken) if not numbers]
        self.same(fit_run(world=world, diary=diary, **switch), fitting[0] if fitting else None)
        least = min(map(len, broken)) if runs else None
        self.same(wrong_number(world=world, diary=diary, **switch), least)
        some = least_wrong(world=world, diary=diary, **switch)
        self.same(some in broken if runs else some, True if runs else None)
        self.same(None if some is None else len(some), least)
        for run in runs[::len(runs) // 8 + 1]:
            self.same(is_run(world=world, diary=diary, paper=run, **switch), run in fitting)
        numbers = range(len(diary.notes))
        for paper in itertools.islice(itertools.chain.from_iterable(
                itertools.combinations(numbers, many) for many in range(len(numbers) + 1)), 0, 200, 29):
            right = any(set(row) <= set(paper) for row in broken)
            self.same(is_wrong_set(world=world, diary=diary, paper=list(paper), **switch), right)

    def look_at_moments(self, world, worlds, diary, leads, switch):
        """Compare the functions of all beginnings of a diary with the runs of these."""
        unfit, table = None, []
        for moment in range(diary.moments):
            part = diary.upto(moment)
            runs = all_runs(world, part, switch.get("anywhere", False), leads)
            broken = [len(broken_by(worlds, part, run)) for run in runs]
            if unfit is None and 0 not in broken:
                unfit = moment
            ends = [[number for run, number in zip(runs, broken) if run[-1] == rank] for rank in range(len(worlds))]
            table.append([min(row) if row else len(diary.notes) + 1 for row in ends])
        self.same(first_unfit(world=world, diary=diary, **switch), unfit)
        self.same(wrong_table(world=world, diary=diary, **switch), table)
        number = wrong_number(world, diary, **switch)
        for bound in (0, number or 0, (number or 0) + 1, len(diary.notes) + 1, len(diary.notes) + 2):
            right = number is None and bound <= len(diary.notes) + 1 or number is not None and bound <= number
            self.same(is_wrong_table(world=world, diary=diary, paper=table, bound=bound, **switch), right)

    def test_least_runs(self):
        world = even_world()
        self.same(rank_of(world), 1)
        self.same(fit_run(world, Diary([(0, 2), (0, 2)])), [1, 0, 0])
        self.same(fit_run(world, Diary([(0, 0), (0, 2)])), [1, 1, 0])
        self.same(fit_run(world, Diary([(0, 2), (0, 2)]), anywhere=True), [0, 0, 0])
        self.same(fit_run(world, Diary([(1, 1)])), [1, 0])
        self.same(fit_run(world, Diary([(1, 1), (1, 1)]), anywhere=True), [0, 1, 0])
        self.same(fit_run(world, Diary([])), [1])
        self.same(fit_run(zero_world(), Diary([(0, 6), (0, 0)])), [0, 0, 0])

    def test_gaps_of_the_rule_zero(self):
        world = zero_world()
        for switch in SWITCHES:
            for gaps, unfit in (([(1, 1)], 1), ([(0, 0), (2, 6)], 2), ([(0, 3), (1, 1), (1, 1)], 2)):
                diary = Diary(gaps, [(0, "ann", 0, "m"), (len(gaps), "ann", 1, "p")])
                self.same(first_unfit(world, diary, **switch), unfit)
                self.assertIs(wrong_number(world, diary, **switch), None)
                self.assertIs(least_wrong(world, diary, **switch), None)
                self.assertIs(fit_run(world, diary, **switch), None)
                for paper in ([], [0], [1], [0, 1]):
                    self.assertIs(is_wrong_set(world, diary, paper, **switch), False)
                self.same(wrong_table(world, diary, **switch)[-1], [3])
                self.assertIs(is_run(world, diary, [0] * len(gaps) + [0], **switch), False)
                earlier = Diary(gaps, [(0, "ann", 0, "p")])
                self.same(first_unfit(world, earlier, **switch), 0)
            self.assertIs(first_unfit(world, Diary([(0, 0), (0, 6)]), **switch), None)

    def test_no_fitting_run(self):
        for world in (zero_world(), even_world(), all_world()):
            diary = Diary([(0, 1)], [(1, "ann", 0, "p")])
            for switch in SWITCHES:
                for note in ((0, "ann", 0, "m"), (1, "ann", 0, "p"), (1, "bob", 6, "-"), (0, "bob", 6, "p")):
                    self.assertIs(may_be(world, diary, note, **switch), False)
                    self.assertIs(must_be(world, diary, note, **switch), True)
                self.same([wrong_number(world, diary, **switch), least_wrong(world, diary, **switch)], [1, [0]])

    def test_the_asked_note_is_not_added(self):
        world = even_world()
        diary = Diary([(1, 1)])
        self.assertIs(may_be(world, diary, (1, "ann", 1, "q")), True)
        self.assertIs(must_be(world, diary, (1, "ann", 1, "q")), False)
        self.assertIs(may_be(world, diary, (0, "ann", 1, "q")), False)
        self.assertIs(may_be(world, diary, (0, "ann", 1, "q"), anywhere=True), True)
        self.assertIs(must_be(world, diary, (0, "ann", 1, "p")), True)
        self.assertIs(must_be(world, diary, (0, "ann", 0, "m"), anywhere=True), True)

    def test_the_first_note_alone_is_wrong(self):
        world = even_world()
        diary = Diary([], [(0, "ann", 1, "q"), (0, "ann", 0, "m")])
        self.same([wrong_number(world, diary), least_wrong(world, diary)], [1, [0]])
        self.assertIs(is_run(world, diary, [rank_of(world)]), False)
        self.assertIs(is_run(world, diary.without([0]), [rank_of(world)]), True)


class JudgesTest(Case):
    def test_bent_runs(self):
        world = even_world()
        first = rank_of(world)
        diary = Diary([(1, 1), (0, 0)])
        run = fit_run(world, diary)
        self.assertIs(is_run(world, diary, run), True)
        other = [rank for rank in range(6) if rank != run[1]][0]
        for paper in (None, True, 0, "", (), {}, [], tuple(run), run[:2], run + [run[2]], [run[0], run[1], other],
                      [first, first, first], [6, run[1], run[2]], [run[0], run[1], None], [-1, run[1], run[2]], [None],
                      [[rank] for rank in run], {rank: rank for rank in run}, world, [str(rank) for rank in run],
                      [run[0], 10 ** 29, run[2]], [True, run[1], run[2]], [run[0], run[1], 6]):
            self.assertIs(is_run(world, diary, paper), False)
            self.assertIs(is_run(world, diary, paper, anywhere=True), paper == [6])
        self.same(first, 1)
        start = [other for other in range(6) if other != first][0]
        moved = [start] + fit_run(class_worlds(world)[start], diary)[1:]
        self.assertIs(is_run(world, diary, moved), False)
        self.assertIs(is_run(world, diary, moved, anywhere=True), True)
        self.assertIs(is_run(zero_world(), Diary([]), [False]), False)
        self.assertIs(is_run(zero_world(), Diary([]), [0]), True)

    def test_wrong_sets(self):
        world = even_world()
        notes = [(0, "ann", 1, "q"), (1, "bob", 1, "p"), (1, "bob", 1, "q"), (1, "bob", 1, "q")]
        diary = Diary([(0, 0)], notes)
        self.same([wrong_number(world, diary), least_wrong(world, diary)], [3, [0, 2, 3]])
        self.assertIs(is_wrong_set(world, diary, [0, 1, 2, 3]), True)
        self.assertIs(is_wrong_set(world, diary, [0, 2, 3]), True)
        for paper in ([], [0], [0, 2], [2, 3], [0, 1, 2], [0, 1], [2, 0, 3], [0, 2, 2, 3], [0, 2, 3, 4], [0, 2, 3, -1],
                      (0, 2, 3), {0: 1, 2: 1, 3: 1}, [False, 2, 3], [0, 2, "3"], None, True, 0, "", {},
                      [[0], [2], [3]], world, [0, 2, None], [0, True, 2, 3]):
            self.assertIs(is_wrong_set(world, diary, paper), False)
        self.same(wrong_number(world, diary, anywhere=True), 2)
        for paper in ([2, 3], [0, 1]):
            self.assertIs(is_wrong_set(world, diary, paper, anywhere=True), True)
            self.assertIs(is_wrong_set(world, diary, paper), False)
        self.assertIs(is_wrong_set(world, Diary([(0, 1)]), []), True)

    def test_bent_tables(self):
        world = even_world()
        notes = [(0, "ann", 1, "q"), (1, "bob", 1, "q"), (2, "bob", 1, "p"), (2, "cat", 1, "p")]
        diary = Diary([(1, 1), (0, 2)], notes)
        for anywhere in (False, True):
            table = wrong_table(world, diary, anywhere=anywhere)
            number = wrong_number(world, diary, anywhere=anywhere)
            self.assertIs(is_wrong_table(world, diary, table, number, anywhere=anywhere), True)
            self.assertIs(is_wrong_table(world, diary, table, number + 1, anywhere=anywhere), False)
            for moment, rank in itertools.product(range(3), range(6)):
                for change in (-1, 1):
                    bent = [list(row) for row in table]
                    bent[moment][rank] += change
                    self.same(is_wrong_table(world, diary, bent, number, anywhere=anywhere),
                              self.plainly_right(world, diary, bent, number, anywhere))
                for value in (None, True, False, "0", [0], (0,), -1, {}):
                    bent = [list(row) for row in table]
                    bent[moment][rank] = value
                    self.assertIs(is_wrong_table(world, diary, bent, 0, anywhere=anywhere), False)
            for bent in (None, True, 0, "", (), {}, [], tuple(table), table[:2], table + table[2:],
                         [tuple(row) for row in table], [row[:5] for row in table], [row + [9] for row in table],
                         [None, *table[1:]], {0: table[0], 1: table[1], 2: table[2]}, world, Bag()):
                self.assertIs(is_wrong_table(world, diary, bent, 0, anywhere=anywhere), False)
            self.assertIs(is_wrong_table(world, diary, [[0] * 6] * 3, 0, anywhere=anywhere), True)

    def plainly_right(self, world, diary, table, bound, anywhere):
        """Tell whether all three conditions of point 84 hold, looked at one by one."""
        if any(number < 0 for row in table for number in row):
            return False
        worlds, leads = class_worlds(world), exact_leads(world)
        numbers = [[sum(one.place(name, day) != place for at, name, day, place in diary.notes if at == moment)
                    for one in worlds] for moment in range(diary.moments)]
        for rank in range(len(worlds)):
            if (anywhere or rank == rank_of(world)) and table[0][rank] > numbers[0][rank]:
                return False
        for moment, (low, high) in enumerate(diary.gaps):
            for here, there in itertools.product(range(len(worlds)), repeat=2):
                if any(there in leads[number][here] for number in range(low, high + 1)):
                    if table[moment + 1][there] > table[moment][here] + numbers[moment + 1][there]:
                        return False
        return all(number >= bound for number in table[-1])

    def test_numbers_of_ranks_that_no_run_reaches(self):
        world = all_world()
        diary = Diary([(0, 0)], [(0, "ann", 0, "p")])
        table = wrong_table(world, diary)
        far = [rank for rank in range(4) if rank != rank_of(world)][0]
        self.same([table[0][far], table[1][far]], [2, 2])
        for number in (0, 1, 10 ** 29):
            bent = [list(row) for row in table]
            bent[0][far] = bent[1][far] = number
            self.same(is_wrong_table(world, diary, bent, 1), number >= 1)
        bent = [list(row) for row in table]
        bent[0][far], bent[1][far] = 1, 2
        self.assertIs(is_wrong_table(world, diary, bent, 1), False)


class ErrorsTest(Case):
    def test_the_order_of_the_errors(self):
        world = forty_world()
        broken = Diary([(0, 1)], [(0, "a", 0, "m"), (1, "zoe", 0, "x"), (0, "yan", 0, "m")])
        towns = Diary([(0, 1)], [(1, "a", 0, "-"), (1, "a", 0, "x"), (0, "zoe", 0, "m")])
        plain = Diary([(0, 1)], [(1, "a", 6, "-")])
        for switch in SWITCHES:
            for call in (*PLAIN, *[lambda *some, call=call, **more: call(*some, None, **more) for call in JUDGES],
                         *[lambda *some, call=call, **more: call(*some, (0, "zed", 0, "y"), **more)
                           for call in ASKING]):
                self.refused(UnknownTraveller, {"name": "zoe"}, call, world, broken, **switch)
                self.refused(UnknownTown, {"town": "x"}, call, world, towns, **switch)
            for call in ASKING:
                self.refused(UnknownTraveller, {"name": "zed"}, call, world, plain, (0, "zed", 0, "y"), **switch)
                self.refused(UnknownTown, {"town": "y"}, call, world, plain, (0, "a", 0, "y"), **switch)
                self.refused(TooMany, {"what": "worlds", "number": 40}, call, world, plain, (1, "a", 0, "-"), **switch)
            for call in PLAIN:
                self.refused(TooMany, {"what": "worlds", "number": 40}, call, world, plain, **switch)
            for call in JUDGES:
                for paper in (None, [], [0], [[0]]):
                    self.refused(TooMany, {"what": "worlds", "number": 40}, call, world, plain, paper, **switch)

    def test_too_many_deeds(self):
        world = same_plans((("m", "p"), 3), (("m", "q"), 3))
        diary = Diary([], [(0, "a", 0, "m")])
        calls = (*PLAIN, *[lambda one, two, call=call: call(one, two, None) for call in JUDGES],
                 *[lambda one, two, call=call: call(one, two, (0, "a", 0, "m")) for call in ASKING])
        for call in calls:
            self.refused(TooMany, {"what": "deeds", "number": 21}, call, world, diary)

    def test_never_maps_or_pairs(self):
        world = same_plans((("m", "p"), 5), (("q", "q", "q"), 1))
        diary = Diary([(1, 1)], [(1, "a", 1, "p")])
        self.same([fit_run(world, diary), wrong_number(world, diary)], [[0, 0], 0])
        self.same(wrong_table(world, diary), [[0], [0]])

    def test_wrong_shapes(self):
        world, diary = forty_world(), Diary([(0, 1), (0, 1)], [(0, "zoe", 0, "x")])
        for note in NO_NOTES:
            for call in ASKING:
                self.misshapen("note", call, world, diary, note, anywhere=None)
        for moment in (3, 4, 10):
            for call in ASKING:
                self.misshapen("note", call, world, diary, (moment, "zoe", 0, "x"))
        for bound in NO_NUMBERS:
            self.misshapen("bound", is_wrong_table, world, diary, None, bound, anywhere=None)
        for anywhere in NO_SWITCHES:
            for call in PLAIN:
                self.misshapen("anywhere", call, world, diary, anywhere=anywhere)
            for call in JUDGES:
                self.misshapen("anywhere", call, world, diary, None, anywhere=anywhere)
            for call in ASKING:
                self.misshapen("anywhere", call, world, diary, (2, "zoe", 0, "x"), anywhere=anywhere)


class NothingChangesTest(Case):
    def test_what_is_passed(self):
        gaps, notes = [(0, 1), (1, 2)], [(0, "ann", 0, "m"), (2, "bob", 1, "p")]
        diary = Diary(gaps, notes)
        gaps.clear()
        notes.append((1, "cat", 0, "m"))
        self.same([diary.gaps, diary.notes], [((0, 1), (1, 2)), ((0, "ann", 0, "m"), (2, "bob", 1, "p"))])
        world, numbers = even_world(), [1]
        run, table = fit_run(world, diary.without(numbers)), wrong_table(world, diary)
        passed = repr([run, table, numbers, world.rows])
        is_run(world, diary, run)
        is_wrong_set(world, diary, numbers)
        is_wrong_table(world, diary, table, 0)
        self.same(repr([run, table, numbers, world.rows]), passed)

    def test_what_is_returned(self):
        world, diary = even_world(), Diary([(0, 1)], [(0, "ann", 1, "q")])
        wanted = wrong_table(world, diary)
        wrong_table(world, diary)[0].clear()
        wrong_table(world, diary).clear()
        self.same(wrong_table(world, diary), wanted)
        least_wrong(world, diary).clear()
        self.same(least_wrong(world, diary), [0])
        fit_run(world, diary.without([0])).clear()
        self.same(fit_run(world, diary.without([0])), [1, 0])

    def test_in_good_time_at_the_limits(self):
        world = week_world()
        begin = time.perf_counter()
        notes = [(at % 8, name, at * 3 % 6, "abc"[at % 3]) for at, name in enumerate(["ann", "bob", "cat", "dan"] * 3)]
        diary = Diary([(0, 2), (1, 1), (0, 6), (0, 0), (1, 1), (0, 1), (1, 1)], notes)
        self.same([class_count(world), diary.moments, len(diary.notes)], [36, 8, 12])
        for anywhere in (False, True):
            table = wrong_table(world, diary, anywhere=anywhere)
            number = wrong_number(world, diary, anywhere=anywhere)
            self.assertIs(is_wrong_table(world, diary, table, number, anywhere=anywhere), True)
            some = least_wrong(world, diary, anywhere=anywhere)
            self.same(len(some), number)
            self.assertIs(is_wrong_set(world, diary, some, anywhere=anywhere), True)
            run = fit_run(world, diary.without(some), anywhere=anywhere)
            self.assertIs(is_run(world, diary.without(some), run, anywhere=anywhere), True)
            first_unfit(world, diary, anywhere=anywhere)
            may_be(world, diary, notes[3], anywhere=anywhere)
        self.assertLess(time.perf_counter() - begin, 30)


if __name__ == "__main__":
    unittest.main()
