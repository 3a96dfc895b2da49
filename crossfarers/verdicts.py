"""Whether one world comes of another one by deeds, and papers that say so."""

from crossfarers.deeds import done, is_leading
from crossfarers.errors import UnlikeClasses
from crossfarers.ledgers import crossings_of, ledger_of, standing, starts_of
from crossfarers.shapes import END, is_leg, is_number, is_tuple_of
from crossfarers.worlds import World, check_frames


def one_class(world, target):
    """Tell whether the target comes of the world by deeds."""
    check_frames(world, target)
    return starts_of(world) == starts_of(target) and ledger_of(world) == ledger_of(target)


def unlike_legs(world, target):
    """Return the legs with unlike numbers in the two ledgers, with these numbers, ascending."""
    check_frames(world, target)
    legs = ledger_of(world)
    others = ledger_of(target)
    rows = [(leg, legs[leg], others[leg]) for leg, _ in legs + others]
    return [row for row in rows if row[1] != row[2]]


def verdict(world, target):
    """Return a paper that says whether the target comes of the world, and why."""
    if one_class(world, target):
        return ("history", sorted_deeds(world, target, world.web.towns))
    for name, plan in world:
        if plan[0] != target.begin(name):
            return ("start", name, plan[0], target.begin(name))
    return ("leg", *unlike_legs(world, target)[0])


def is_verdict(world, target, paper):
    """Judge whether the paper is a verdict on the world and the target, and says what is so."""
    check_frames(world, target)
    if is_tuple_of(paper, 2):
        return paper[0] == "history" and is_leading(world, target, paper[1])
    if not is_tuple_of(paper, 4):
        return False
    form, thing, first, second = paper
    if form == "start":
        return are_unlike_starts(world, target, thing, first, second)
    if form != "leg" or not is_leg(thing):
        return False
    return are_unlike_numbers(ledger_of(world), ledger_of(target), thing, first, second)


def sorted_history(world, target):
    """Return the sorted history from the world to the target."""
    check_class(world, target)
    return sorted_deeds(world, target, world.web.towns)


def check_class(world, target):
    """Raise UnlikeFrames or UnlikeClasses unless both worlds are of one class."""
    if not one_class(world, target):
        raise UnlikeClasses(verdict(world, target))


def is_of_class(world, value):
    """Tell whether the value is a world of the frame and the class of the world."""
    if not isinstance(value, World) or value.web != world.web or value.names != world.names:
        return False
    return one_class(world, value)


def sorted_deeds(world, target, open_towns):
    """Return the sorted history in the open towns, in which deeds lead from the world to the target.

    If all towns are open, the stretches are the legs.
    """
    history = []
    present = world
    for day, town in crossings_of(world):
        names = standing(present, (day, town)) if town in open_towns else []
        for at, x in enumerate(names):
            wanted = stretch_from(target[x], day, open_towns)
            y = [name for name in names[at:] if stretch_from(present[name], day, open_towns) == wanted][0]
            if y != x:
                history.append((x, y, day))
                present = done(present, (x, y, day))
    return history


def stretch_from(plan, day, open_towns):
    """Return the stretch of the plan from the day on: its stops up to the next open town, or to END."""
    stops = plan[day:day + 1]
    for town in plan[day + 1:]:
        stops = stops + (town,)
        if town in open_towns:
            return (day, stops)
    return (day, stops + (END,))


def are_unlike_starts(world, target, name, town, other):
    """Tell whether the traveller starts in these unlike towns in the two worlds."""
    return name in world and world.begin(name) == town and target.begin(name) == other and town != other


def are_unlike_numbers(first, second, thing, number, other):
    """Tell whether the thing occurs in the two bags with these unlike numbers."""
    if not is_number(number) or not is_number(other):
        return False
    return first[thing] == number and second[thing] == other and number != other
