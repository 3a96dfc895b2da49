"""Worlds cut at a day into a front and a rest book, and glued again."""

from crossfarers.bags import Bag, added
from crossfarers.checks import are_names, check
from crossfarers.errors import Unfit
from crossfarers.ledgers import legs_of
from crossfarers.shapes import LAST_DAY, MOST_TRAVELLERS, is_day, is_name, is_number, is_plan, is_tuple_of
from crossfarers.verdicts import one_class
from crossfarers.worlds import World


def front_of(world, day):
    """Return the pairs of each traveller and its towns up to the day, ascending."""
    check(is_day(day), "day")
    return [(name, plan[:day + 1]) for name, plan in world]


def rest_book(world, day):
    """Return the bag of the pairs of a town and a rest of those who stand there on the day."""
    check(is_day(day), "day")
    return Bag([(plan[day], plan[day + 1:]) for _, plan in world if day < len(plan)])


def front_ledger(day, front):
    """Return the bag of the legs of days before this one, with the end legs of those who have settled."""
    check(is_day(day), "day")
    check(is_front(front, day), "front")
    return Bag([leg for _, towns in front for leg in legs_of(towns) if leg[0] < day])


def rest_ledger(day, rests):
    """Return the bag of the legs that the plans behind the rest book use from the day on."""
    check(is_day(day), "day")
    check(is_rest_book(rests, day), "rests")
    rows = [((town,) + rest, number) for (town, rest), number in rests]
    return added([((day + now, here, there), number) for row, number in rows for now, here, there in legs_of(row)])


def glued(web, day, front, rests, *, turn=0):
    """Return the world of the front in which the travellers of each town get its rests, turned by a number."""
    check(is_day(day), "day")
    check(is_front(front, day), "front")
    check(is_rest_book(rests, day), "rests")
    check(is_number(turn), "turn")
    return world_glued(web, day, front, rests, turn)


def telling_leg(day, first, second):
    """Return the least leg with unlike numbers in the two rest ledgers and these numbers, or None."""
    check(is_day(day), "day")
    check(is_rest_book(first, day), "first")
    check(is_rest_book(second, day), "second")
    return rest_ledger(day, first).first_unlike(rest_ledger(day, second))


def alike_behind(web, day, front, first, second):
    """Tell whether the worlds glued from the front and each of the rest books are of one class."""
    check(is_day(day), "day")
    check(is_front(front, day), "front")
    check(is_rest_book(first, day), "first")
    check(is_rest_book(second, day), "second")
    return one_class(world_glued(web, day, front, first, 0), world_glued(web, day, front, second, 0))


def world_glued(web, day, front, rests, turn):
    """Return the glued world, or refuse a front and a rest book that do not fit."""
    standing = {}
    for name, towns in front:
        if len(towns) == day + 1:
            standing.setdefault(towns[day], []).append(name)
    check_gluing(standing, rests)
    plans = {name: towns for name, towns in front}
    given = {town: 0 for town in standing}
    for town, rest in rests.things():
        names = standing[town]
        name = names[(given[town] - turn) % len(names)]
        plans[name] = plans[name] + rest
        given[town] = given[town] + 1
    return World(web, plans)


def check_gluing(standing, rests):
    """Raise Unfit for the least town in which unlike numbers of travellers stand and of rests lie."""
    wanted = added([(town, len(names)) for town, names in standing.items()])
    unlike = wanted.first_unlike(added([(town, number) for (town, _), number in rests]))
    if unlike is not None:
        town, many, others = unlike
        raise Unfit(town, many, others)


def is_front(value, day):
    """Tell whether the value is a list of pairs of a traveller and its towns up to the day, strictly ascending."""
    if not isinstance(value, list) or not 1 <= len(value) <= MOST_TRAVELLERS:
        return False
    if not all([is_tuple_of(pair, 2) and is_name(pair[0]) and is_plan(pair[1]) for pair in value]):
        return False
    names = [name for name, _ in value]
    return names == sorted(set(names)) and all([len(towns) <= day + 1 for _, towns in value])


def is_rest_book(value, day):
    """Tell whether the value is a bag of pairs of a town and a rest behind the day."""
    return isinstance(value, Bag) and all([is_town_with_rest(thing, day) for thing, _ in value])


def is_town_with_rest(value, day):
    """Tell whether the value is a tuple of a town and a tuple of as many towns as days may follow the day."""
    if not is_tuple_of(value, 2) or not is_name(value[0]) or not isinstance(value[1], tuple):
        return False
    return len(value[1]) <= LAST_DAY - day and are_names(value[1])
