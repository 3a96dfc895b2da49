"""Changes of single places, and repairs that bring a world into a class."""

from crossfarers.checks import check, check_sighted
from crossfarers.classes import class_worlds
from crossfarers.errors import NoWay, PlanGap, UnknownTown, UnknownTraveller
from crossfarers.shapes import END, LAST_DAY, is_sighting
from crossfarers.verdicts import one_class
from crossfarers.worlds import World, check_frames

MOST_CHANGES = 42


def distance(world, other):
    """Return the number of pairs of a traveller and a day on which its places are unlike."""
    return len(differing(world, other))


def differing(world, other):
    """Return the changes, ascending, that tell the places in the other world which are unlike."""
    check_frames(world, other)
    places = [(name, day, other.place(name, day)) for name in world.names for day in range(LAST_DAY + 1)]
    return [(name, day, place) for name, day, place in places if world.place(name, day) != place]


def changed(world, changes):
    """Return the world with the places that the changes tell, replaced all at once."""
    check(are_changes(changes), "changes")
    check_sighted(world, changes)
    told = {(name, day): place for name, day, place in changes}
    rows = {}
    for name in world.names:
        rows[name] = [told.get((name, day), world.place(name, day)) for day in range(LAST_DAY + 1)]
    for name in world.names:
        check_gap(name, rows[name])
    return World(world.web, {name: tuple([place for place in row if place != END]) for name, row in rows.items()})


def least_repair(world, target):
    """Return the changes that make of the world the nearest world of the class of the target."""
    check_frames(world, target)
    rows = [differing(world, one) for one in class_worlds(target)]
    return min(rows, key=len)


def is_repair(world, target, paper):
    """Judge whether the paper lists changes that make of the world a world of the class of the target."""
    check_frames(world, target)
    if not are_changes(paper):
        return False
    try:
        return one_class(changed(world, paper), target)
    except (UnknownTraveller, UnknownTown, PlanGap, NoWay):
        return False


def are_changes(value):
    """Tell whether the value is a list of changes, strictly ascending by name and day, but not too many."""
    if not isinstance(value, list) or len(value) > MOST_CHANGES or not all([is_sighting(part) for part in value]):
        return False
    told = [(name, day) for name, day, _ in value]
    return told == sorted(set(told))


def check_gap(name, row):
    """Raise PlanGap for the least day without a town that is the first day or stands before a day with one."""
    for day, place in enumerate(row):
        if place == END and (day == 0 or any([later != END for later in row[day:]])):
            raise PlanGap(name, day)
