"""The class of a world: its worlds by their ranks, and how deeds lead from one to another."""

from crossfarers.bags import Bag
from crossfarers.checks import check
from crossfarers.deeds import deed_count, deeds_of, done
from crossfarers.errors import TooMany
from crossfarers.ledgers import legs_of, starts_of
from crossfarers.orders import arrangement_of, arrangement_rank, arrangements, mixed_digits, mixed_number
from crossfarers.shapes import END, is_number
from crossfarers.verdicts import check_class
from crossfarers.worlds import World

MOST_LISTED = 400
MOST_WORLDS = 36
MOST_FITTING = 20
LONGEST_WALK = 8


def class_count(world):
    """Return the number of worlds of the class."""
    count = 1
    for _, number in crossing_counts(world):
        count = count * number
    return count


def crossing_counts(world):
    """Return the pairs of each crossing and the number of its arrangements, ascending."""
    return [(crossing, arrangements(Bag(row))) for crossing, row in leg_rows(world)]


def rank_of(world):
    """Return the rank of the world in its class."""
    bases = [number for _, number in crossing_counts(world)]
    return mixed_number(bases, [arrangement_rank(row) for _, row in leg_rows(world)])


def world_of_rank(world, number):
    """Return the world of the class that has the number as its rank."""
    check(is_number(number), "number")
    digits = mixed_digits([count for _, count in crossing_counts(world)], number)
    plans = {name: (town,) for name, town in starts_of(world)}
    for (crossing, row), digit in zip(leg_rows(world), digits):
        day, town = crossing
        names = [name for name in plans if plans[name][day:] == (town,)]
        for name, leg in zip(names, arrangement_of(Bag(row), digit)):
            if leg[2] != END:
                plans[name] = plans[name] + (leg[2],)
    return World(world.web, plans)


def class_worlds(world):
    """Return all worlds of the class, ranks ascending."""
    count = class_count(world)
    if count > MOST_LISTED:
        raise TooMany("worlds", count)
    return [world_of_rank(world, rank) for rank in range(count)]


def check_small(world):
    """Raise TooMany unless the class is small."""
    count = class_count(world)
    if count > MOST_WORLDS:
        raise TooMany("worlds", count)
    number = deed_count(world)
    if number > MOST_FITTING:
        raise TooMany("deeds", number)


def deed_graph(world):
    """Return for each rank the ranks to which one deed leads, ascending."""
    return [sorted(set(row)) for row in deed_ranks(world)]


def distances(world):
    """Return for each rank the fewest deeds that lead to it from the world."""
    return distances_in(deed_graph(world), rank_of(world))


def walk_numbers(world, number):
    """Return for each rank how many histories of this number of deeds, lesser names first, lead to it."""
    check(is_number(number) and number <= LONGEST_WALK, "number")
    ranks = deed_ranks(world)
    first = rank_of(world)
    numbers = [1 if rank == first else 0 for rank in range(len(ranks))]
    for _ in range(number):
        # Each deed leads back as well, so the sum over the ranks it leads to is that over the ranks it comes from.
        numbers = [sum([numbers[rank] for rank in row]) for row in ranks]
    return numbers


def between(world, target):
    """Return the ranks of all worlds between the two, ascending."""
    check_class(world, target)
    graph = deed_graph(world)
    there = distances_in(graph, rank_of(world))
    home = distances_in(graph, rank_of(target))
    return [rank for rank in range(len(graph)) if there[rank] + home[rank] == home[rank_of(world)]]


def leg_rows(world):
    """Return the pairs of each crossing, ascending, and the legs by which its travellers leave, in their order."""
    rows = {}
    for _, plan in world:
        for leg in legs_of(plan):
            rows.setdefault(leg[:2], []).append(leg)
    return [(crossing, rows[crossing]) for crossing in sorted(rows)]


def deed_ranks(world):
    """Return for each rank of a small class the ranks to which its deeds lead, one for each deed."""
    check_small(world)
    return [[rank_of(done(one, deed)) for deed in deeds_of(one)] for one in class_worlds(world)]


def distances_in(graph, first):
    """Return for each rank the fewest steps in the graph from the first rank to it."""
    found = {}
    wave = [first]
    number = 0
    while wave:
        for rank in wave:
            found[rank] = number
        wave = sorted({other for rank in wave for other in graph[rank] if other not in found})
        number = number + 1
    return [found[rank] for rank in range(len(graph))]
