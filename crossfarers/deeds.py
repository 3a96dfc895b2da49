"""Deeds, by which two travellers exchange the rests of their plans, and histories of deeds."""

from crossfarers.checks import check, check_traveller
from crossfarers.errors import (
    NoStep, PlanOver, SameCrossing, SameTraveller, StepRefused, TooMany, UnknownTraveller, UnlikeTowns,
)
from crossfarers.shapes import MOST_DEEDS, is_deed, is_history, is_number
from crossfarers.worlds import World, check_frames


def done(world, deed):
    """Return the world after the deed."""
    check(is_deed(deed), "deed")
    check_fit(world, deed)
    return World(world.web, rests_exchanged(world.plans, deed))


def refusal(world, deed):
    """Return the name of the error that refuses the deed, or None if it fits."""
    check(is_deed(deed), "deed")
    try:
        check_fit(world, deed)
    except UnknownTraveller:
        return "UnknownTraveller"
    except SameTraveller:
        return "SameTraveller"
    except PlanOver:
        return "PlanOver"
    except UnlikeTowns:
        return "UnlikeTowns"
    return None


def crossing_of(world, deed):
    """Return the crossing at which the deed is done."""
    check(is_deed(deed), "deed")
    check_fit(world, deed)
    x, _, day = deed
    return (day, world.place(x, day))


def is_idle(world, deed):
    """Tell whether the two rests that the deed exchanges are equal."""
    check(is_deed(deed), "deed")
    check_fit(world, deed)
    x, y, day = deed
    return world.rest(x, day) == world.rest(y, day)


def deeds_of(world):
    """Return the deeds (x, y, day) with x < y that fit, ascending by day, then x, then y."""
    days = range(world.last_day + 1)
    pairs = [(x, y) for x in world.names for y in world.names if x < y]
    return [(x, y, day) for day in days for x, y in pairs if refusal(world, (x, y, day)) is None]


def deed_count(world):
    """Return how many deeds (x, y, day) with x < y fit."""
    return len(deeds_of(world))


def replay(world, history):
    """Return the world after the history."""
    return worlds_along(world, history)[-1]


def worlds_along(world, history):
    """Return the worlds before, between and after the deeds of the history."""
    check(is_history(history), "history")
    worlds = [world]
    for at, deed in enumerate(history):
        check_step(worlds[-1], deed, at)
        worlds.append(done(worlds[-1], deed))
    return worlds


def is_leading(world, target, paper):
    """Judge whether the paper is a history that leads from the world to the target."""
    check_frames(world, target)
    if not is_history(paper):
        return False
    try:
        return replay(world, paper) == target
    except StepRefused:
        return False


def cut_history(history, at):
    """Return the deeds with indexes less than `at`, and the others."""
    check(is_history(history), "history")
    check(is_number(at), "at")
    if at > len(history):
        raise NoStep(at, len(history))
    return (history[:at], history[at:])


def chained(first, second):
    """Return the history of both, one after the other."""
    number = len(first) + len(second)
    if number > MOST_DEEDS:
        raise TooMany("deeds", number)
    return first + second


def back(history):
    """Return the history read from its end to its beginning."""
    check(is_history(history), "history")
    return history[::-1]


def neighbours_exchanged(world, history, at):
    """Return the history with the deeds of indexes `at` and `at` + 1 exchanged."""
    check(is_history(history), "history")
    check(is_number(at), "at")
    if at + 1 >= len(history):
        raise NoStep(at, len(history))
    worlds = worlds_along(world, history)
    first, second = history[at:at + 2]
    crossing = crossing_of(worlds[at], first)
    if crossing_of(worlds[at + 1], second) == crossing:
        raise SameCrossing(crossing)
    return history[:at] + turned(first, second) + history[at + 2:]


def turned(first, second):
    """Return the two deeds that do in turned order what these do at unlike crossings."""
    if first[2] < second[2]:
        return [with_names_exchanged(second, first), first]
    if first[2] > second[2]:
        return [second, with_names_exchanged(first, second)]
    return [second, first]


def with_names_exchanged(deed, other):
    """Return the deed with the two names of the other deed exchanged in it."""
    x, y, day = deed
    p, q, _ = other
    names = {x: x, y: y, p: q, q: p}
    return (names[x], names[y], day)


def check_fit(world, deed):
    """Raise why the deed does not fit the world, if it does not."""
    x, y, day = deed
    check_traveller(world, x)
    check_traveller(world, y)
    if x == y:
        raise SameTraveller(x)
    for name in (x, y):
        if day > world.last(name):
            raise PlanOver(name, day)
    first = world.place(x, day)
    second = world.place(y, day)
    if first != second:
        raise UnlikeTowns(first, second)


def check_step(world, deed, at):
    """Raise StepRefused with the index `at` if the deed does not fit the world."""
    reason = refusal(world, deed)
    if reason is not None:
        raise StepRefused(at, reason)


def rests_exchanged(rows, deed):
    """Return the dict of rows in which two have exchanged what stands behind the day of the deed."""
    x, y, day = deed
    found = {name: row for name, row in rows.items()}
    found[x] = rows[x][:day + 1] + rows[y][day + 1:]
    found[y] = rows[y][:day + 1] + rows[x][day + 1:]
    return found
