"""Whether one world comes of another one by deeds, and papers that say so."""

from crossfarers.deeds import done, is_leading
from crossfarers.errors import UnlikeClasses
from crossfarers.ledgers import crossings_of, ledger_of, legs_of, standing, starts_of
from crossfarers.shapes import is_leg, is_number, is_tuple_of
from crossfarers.worlds import check_frames


def one_class(world, target):
    """Tell whether the target comes of the world by deeds."""
    check_frames(world, target)
    return starts_of(world) == starts_of(target) and ledger_of(world) == ledger_of(target)


def unlike_legs(world, target):
    """Return the legs with unlike numbers in the two ledgers, with these numbers, ascending."""
    check_frames(world, target)
    legs = ledger_of(world)
    others = ledger_of(target)
    rows = [(leg, legs[leg], others[leg]) for leg, _ in legs + others]
    return [row for row in rows if row[1] != row[2]]


def verdict(world, target):
    """Return a paper that says whether the target comes of the world, and why."""
    if one_class(world, target):
        return ("history", sorted_deeds(world, target))
    for name, plan in world:
        if plan[0] != target.begin(name):
            return ("start", name, plan[0], target.begin(name))
    return ("leg", *unlike_legs(world, target)[0])


def is_verdict(world, target, paper):
    """Judge whether the paper is a verdict on the world and the target, and says what is so."""
    check_frames(world, target)
    if is_tuple_of(paper, 2):
        return paper[0] == "history" and is_leading(world, target, paper[1])
    if not is_tuple_of(paper, 4):
        return False
    form, thing, first, second = paper
    if form == "start":
        return are_unlike_starts(world, target, thing, first, second)
    return form == "leg" and are_unlike_numbers(world, target, thing, first, second)


def sorted_history(world, target):
    """Return the sorted history from the world to the target."""
    check_class(world, target)
    return sorted_deeds(world, target)


def check_class(world, target):
    """Raise UnlikeFrames or UnlikeClasses unless both worlds are of one class."""
    if not one_class(world, target):
        raise UnlikeClasses(verdict(world, target))


def sorted_deeds(world, target):
    """Return the sorted history between two worlds of one class."""
    history = []
    present = world
    for crossing in crossings_of(world):
        names = standing(present, crossing)
        for at, x in enumerate(names):
            later = [y for y in names[at:] if leg_on(present, y, crossing[0]) == leg_on(target, x, crossing[0])]
            if later[0] != x:
                deed = (x, later[0], crossing[0])
                history.append(deed)
                present = done(present, deed)
    return history


def leg_on(world, name, day):
    """Return the leg that the traveller uses on the day."""
    return legs_of(world[name])[day]


def are_unlike_starts(world, target, name, town, other):
    """Tell whether the traveller starts in these unlike towns in the two worlds."""
    return name in world and world.begin(name) == town and target.begin(name) == other and town != other


def are_unlike_numbers(world, target, leg, number, other):
    """Tell whether the leg occurs in the two ledgers with these unlike numbers."""
    if not is_leg(leg) or not is_number(number) or not is_number(other):
        return False
    return ledger_of(world)[leg] == number and ledger_of(target)[leg] == other and number != other
