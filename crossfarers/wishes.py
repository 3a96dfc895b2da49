"""Wished plans, and sightings, that some world of a class may have."""

from itertools import combinations

from crossfarers.bags import Bag
from crossfarers.checks import check, check_sighted, check_traveller
from crossfarers.classes import class_worlds
from crossfarers.ledgers import ledger_of, legs_of, world_led_on
from crossfarers.shapes import END, is_leg, is_name, is_number, is_sighting, is_tuple_of
from crossfarers.verdicts import is_of_class
from crossfarers.worlds import are_plans

MOST_SIGHTINGS = 12


def grant(world, wishes):
    """Return a paper that grants the wishes, or says why they cannot be granted."""
    check_wishes(world, wishes)
    for name in sorted(wishes):
        if wishes[name][0] != world.begin(name):
            return ("start", name, wishes[name][0], world.begin(name))
    rows = overbooked(world, wishes)
    if rows:
        return ("leg", *rows[0])
    return ("world", granted(world, wishes))


def is_grant(world, wishes, paper):
    """Judge whether the paper grants the wishes, or says a right reason why they cannot be granted."""
    check_wishes(world, wishes)
    if is_tuple_of(paper, 2):
        return paper[0] == "world" and is_granting(world, wishes, paper[1])
    if not is_tuple_of(paper, 4):
        return False
    form, thing, first, second = paper
    if form == "start":
        return is_wrong_start(world, wishes, thing, first, second)
    return form == "leg" and is_overbooked(world, wishes, thing, first, second)


def overbooked(world, wishes):
    """Return the legs that are wished oftener than the ledger has them, with both numbers, ascending."""
    check_wishes(world, wishes)
    ledger = ledger_of(world)
    return [(leg, wished, ledger[leg]) for leg, wished in wished_legs(wishes) if wished > ledger[leg]]


def most_wishes(world, wishes):
    """Return the least of the longest lists of names whose wishes can be granted together."""
    check_wishes(world, wishes)
    names = sorted(wishes)
    for many in range(len(names), 0, -1):
        for some in combinations(names, many):
            if grant(world, {name: wishes[name] for name in some})[0] == "world":
                return list(some)
    return []


def meets(world, sightings):
    """Tell whether the world meets all sightings."""
    check(are_sightings(sightings), "sightings")
    check_sighted(world, sightings)
    return all([world.place(name, day) == place for name, day, place in sightings])


def world_met(world, sightings):
    """Return the world of least rank in the class that meets all sightings, or None."""
    check(are_sightings(sightings), "sightings")
    check_sighted(world, sightings)
    for one in class_worlds(world):
        if meets(one, sightings):
            return one
    return None


def check_wishes(world, wishes):
    """Raise BadShape or UnknownTraveller unless these are wishes for travellers of the world."""
    check(are_plans(wishes), "wishes")
    for name in sorted(wishes):
        check_traveller(world, name)


def are_sightings(value):
    """Tell whether the value is a list of sightings, but not too many."""
    return isinstance(value, list) and len(value) <= MOST_SIGHTINGS and all([is_sighting(part) for part in value])


def wished_legs(wishes):
    """Return the bag of the legs of all wished plans."""
    return Bag([leg for plan in wishes.values() for leg in legs_of(plan)])


def granted(world, wishes):
    """Return a world of the class with the wished plans, if they can be granted."""
    rows = {name: plan[:1] for name, plan in world}
    for name, plan in wishes.items():
        rows[name] = plan + (END,)
    return world_led_on(world.web, rows, ledger_of(world) - wished_legs(wishes))


def is_granting(world, wishes, other):
    """Tell whether this is a world of the class that grants the wishes."""
    return is_of_class(world, other) and all([other[name] == plan for name, plan in wishes.items()])


def is_wrong_start(world, wishes, name, town, start):
    """Tell whether the plan that is wished for the traveller begins in this town, which is not its start."""
    if not is_name(name) or name not in wishes:
        return False
    return wishes[name][0] == town and world.begin(name) == start and town != start


def is_overbooked(world, wishes, leg, wished, number):
    """Tell whether the leg is wished as often as told, and oftener than the ledger has it."""
    if not is_leg(leg) or not is_number(wished) or not is_number(number):
        return False
    return wished_legs(wishes)[leg] == wished and ledger_of(world)[leg] == number and wished > number
