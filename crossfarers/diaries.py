"""Diaries of unknown histories: what fits them, what may and must have been, and which notes are wrong."""

from crossfarers.checks import check, check_sighted, is_series
from crossfarers.classes import check_small, class_count, class_worlds, deed_graph, distances_in, rank_of
from crossfarers.lengths import is_length, length_rule
from crossfarers.shapes import is_number, is_sighting, is_tuple_of

MOST_GAPS = 7
MOST_NOTES = 12
MOST_IN_GAP = 6
MOST_IN_GAPS = 12


class Diary:
    """Gaps with bounds on how many deeds were done in them, and notes of what was so at the moments between."""

    def __init__(self, gaps, notes=()):
        check(are_gaps(gaps), "gaps")
        check(are_notes(notes, len(gaps) + 1), "notes")
        self._gaps = tuple(gaps)
        self._notes = tuple(notes)

    def __eq__(self, other):
        return isinstance(other, Diary) and self._gaps == other._gaps and self._notes == other._notes

    @property
    def gaps(self):
        """The pairs of the least and the greatest number of deeds of each gap, in order."""
        return self._gaps

    @property
    def notes(self):
        """The notes, in order."""
        return self._notes

    @property
    def moments(self):
        """How many moments there are."""
        return len(self._gaps) + 1

    def upto(self, moment):
        """Return the diary of the moments up to this one."""
        check(is_number(moment) and moment < self.moments, "moment")
        return Diary(self._gaps[:moment], [note for note in self._notes if note[0] <= moment])

    def without(self, numbers):
        """Return the diary without the notes of these indexes."""
        check(are_indexes(numbers, len(self._notes)), "numbers")
        return Diary(self._gaps, [note for at, note in enumerate(self._notes) if at not in numbers])


def is_run(world, diary, paper, *, anywhere=False):
    """Judge whether the paper is a run that fits."""
    check_question(world, diary, [], anywhere)
    if not is_row_of_ranks(paper, diary.moments, class_count(world)):
        return False
    if paper[0] not in first_ranks(world, anywhere) or broken_on(world, diary, paper) != []:
        return False
    return all([there in row[here] for row, here, there in zip(leads_of(world, diary), paper, paper[1:])])


def fit_run(world, diary, *, anywhere=False):
    """Return the least run that fits, or None if there is none."""
    check_question(world, diary, [], anywhere)
    leads = leads_of(world, diary)
    kept = fitting_ranks(table_of(world, diary, anywhere, leads), leads)
    if not kept[0]:
        return None
    run = [kept[0][0]]
    for row, ranks in zip(leads, kept[1:]):
        run.append([rank for rank in ranks if rank in row[run[-1]]][0])
    return run


def first_unfit(world, diary, *, anywhere=False):
    """Return the least moment up to which no run fits, or None if the diary fits."""
    for moment, row in enumerate(wrong_table(world, diary, anywhere=anywhere)):
        if min(row) > 0:
            return moment
    return None


def may_be(world, diary, note, *, anywhere=False):
    """Tell whether some fitting run meets the sighting of the note at its moment."""
    return any(sights_of(world, diary, note, anywhere))


def must_be(world, diary, note, *, anywhere=False):
    """Tell whether every fitting run meets the sighting of the note at its moment."""
    return all(sights_of(world, diary, note, anywhere))


def wrong_number(world, diary, *, anywhere=False):
    """Return the least number of notes that a run breaks, or None if there is no run."""
    number = min(wrong_table(world, diary, anywhere=anywhere)[-1])
    return number if number <= len(diary.notes) else None


def least_wrong(world, diary, *, anywhere=False):
    """Return the indexes of the notes that a run breaks which breaks as few as can be, or None if there is no run."""
    check_question(world, diary, [], anywhere)
    leads = leads_of(world, diary)
    table = table_of(world, diary, anywhere, leads)
    if min(table[-1]) > len(diary.notes):
        return None
    return broken_on(world, diary, least_run(table, leads, broken_numbers(world, diary)))


def is_wrong_set(world, diary, paper, *, anywhere=False):
    """Judge whether the paper lists the indexes of notes without which the diary fits."""
    check_question(world, diary, [], anywhere)
    if not are_indexes(paper, len(diary.notes)):
        return False
    return first_unfit(world, diary.without(paper), anywhere=anywhere) is None


def wrong_table(world, diary, *, anywhere=False):
    """Return for each moment and rank the least number of notes that a run up to there breaks."""
    check_question(world, diary, [], anywhere)
    return table_of(world, diary, anywhere, leads_of(world, diary))


def is_wrong_table(world, diary, paper, bound, *, anywhere=False):
    """Judge whether the paper is a wrong table that is right for the bound."""
    check(is_number(bound), "bound")
    check_question(world, diary, [], anywhere)
    if not is_table_of_numbers(paper, diary.moments, class_count(world)):
        return False
    numbers = broken_numbers(world, diary)
    if any([paper[0][rank] > numbers[0][rank] for rank in first_ranks(world, anywhere)]):
        return False
    for row, earlier, later, broken in zip(leads_of(world, diary), paper, paper[1:], numbers[1:]):
        if any([later[there] > earlier[here] + broken[there] for there, heres in enumerate(row) for here in heres]):
            return False
    return min(paper[-1]) >= bound


def are_gaps(value):
    """Tell whether the value has the shape of the gaps of a diary."""
    if not is_series(value) or len(value) > MOST_GAPS or not all([is_gap(gap) for gap in value]):
        return False
    return sum([high for _, high in value]) <= MOST_IN_GAPS


def is_gap(value):
    """Tell whether the value is a tuple of the least and the greatest number of deeds of a gap."""
    return is_tuple_of(value, 2) and is_number(value[0]) and is_number(value[1]) and value[0] <= value[1] <= MOST_IN_GAP


def are_notes(value, moments):
    """Tell whether the value is a list or tuple of notes of this many moments, but not too many."""
    return is_series(value) and len(value) <= MOST_NOTES and all([is_note(note, moments) for note in value])


def is_note(value, moments):
    """Tell whether the value is a tuple of one of this many moments, a traveller, a day and a place."""
    return is_tuple_of(value, 4) and is_number(value[0]) and value[0] < moments and is_sighting(value[1:])


def are_indexes(value, limit):
    """Tell whether the value is a list of numbers below the limit, strictly ascending."""
    return is_row_below(value, limit) and value == sorted(set(value))


def is_row_of_ranks(value, moments, count):
    """Tell whether the value is a list of one rank below the count for each moment."""
    return is_row_below(value, count) and len(value) == moments


def is_row_below(value, limit):
    """Tell whether the value is a list of numbers below the limit."""
    return isinstance(value, list) and all([is_number(number) and number < limit for number in value])


def is_table_of_numbers(value, moments, count):
    """Tell whether the value is a list of a list for each moment of a number for each rank."""
    if not isinstance(value, list) or len(value) != moments:
        return False
    if not all([isinstance(row, list) and len(row) == count for row in value]):
        return False
    return all([is_number(number) for row in value for number in row])


def check_question(world, diary, asked, anywhere):
    """Raise what is wrong with a question about a diary and asked notes, if anything is."""
    check(isinstance(anywhere, bool), "anywhere")
    check_sighted(world, [note[1:] for note in list(diary.notes) + asked])
    check_small(world)


def first_ranks(world, anywhere):
    """Return the ranks at which a run may begin."""
    return list(range(class_count(world))) if anywhere else [rank_of(world)]


def is_met(world, note):
    """Tell whether the world meets the sighting of the note."""
    _, name, day, place = note
    return world.place(name, day) == place


def broken_numbers(world, diary):
    """Return for each moment and rank the number of notes of the moment that the world of the rank breaks."""
    worlds = class_worlds(world)
    numbers = []
    for moment in range(diary.moments):
        notes = [note for note in diary.notes if note[0] == moment]
        numbers.append([len([note for note in notes if not is_met(one, note)]) for one in worlds])
    return numbers


def broken_on(world, diary, run):
    """Return the indexes of the notes that the run breaks."""
    worlds = class_worlds(world)
    return [at for at, note in enumerate(diary.notes) if not is_met(worlds[run[note[0]]], note)]


def leads_of(world, diary):
    """Return for each gap and rank the ranks from which the gap can lead to it.

    Each history can be turned back, so these are also the ranks to which the gap can lead from it.
    """
    graph = deed_graph(world)
    rule = length_rule(world)
    rows = [distances_in(graph, rank) for rank in range(len(graph))]
    return [[[rank for rank, least in enumerate(row) if fills(rule, gap, least)] for row in rows] for gap in diary.gaps]


def fills(rule, gap, least):
    """Tell whether a history may have a number of deeds within the gap, by the length rule and the fewest number."""
    low, high = gap
    return any([is_length(rule, number, least) for number in range(low, high + 1)])


def table_of(world, diary, anywhere, leads):
    """Return the program's own wrong table."""
    none = len(diary.notes) + 1
    numbers = broken_numbers(world, diary)
    firsts = first_ranks(world, anywhere)
    table = [[number if rank in firsts else none for rank, number in enumerate(numbers[0])]]
    for row, broken in zip(leads, numbers[1:]):
        earlier = table[-1]
        sums = [[earlier[here] + number for here in heres] for heres, number in zip(row, broken)]
        # No run breaks more notes than there are, so a greater sum comes from a rank at which no run ends.
        table.append([min([none] + some) for some in sums])
    return table


def fitting_ranks(table, leads):
    """Return for each moment the ranks of fitting runs, ascending."""
    kept = [[rank for rank, number in enumerate(table[-1]) if number == 0]]
    for row, numbers in zip(leads[::-1], table[:-1][::-1]):
        later = kept[-1]
        kept.append([here for here, number in enumerate(numbers)
                     if number == 0 and any([there in later for there in row[here]])])
    return kept[::-1]


def least_run(table, leads, numbers):
    """Return a run that breaks as few notes as can be; the table tells that there is one."""
    run = [table[-1].index(min(table[-1]))]
    for at in range(len(leads) - 1, -1, -1):
        there = run[-1]
        wanted = table[at + 1][there] - numbers[at + 1][there]
        run.append([here for here in leads[at][there] if table[at][here] == wanted][0])
    return run[::-1]


def sights_of(world, diary, note, anywhere):
    """Return for each rank of a fitting run at the moment of the note whether its world meets the sighting."""
    check(is_note(note, diary.moments), "note")
    check_question(world, diary, [note], anywhere)
    leads = leads_of(world, diary)
    kept = fitting_ranks(table_of(world, diary, anywhere, leads), leads)
    worlds = class_worlds(world)
    return [is_met(worlds[rank], note) for rank in kept[note[0]]]
