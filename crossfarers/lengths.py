"""Which numbers of deeds a history between two worlds may have."""

from crossfarers.checks import check
from crossfarers.deeds import deed_count, deeds_of
from crossfarers.errors import NoLength, TooMany
from crossfarers.fewest import fewest, least_history, row_cost
from crossfarers.ledgers import ledger_of, users
from crossfarers.shapes import MOST_DEEDS, is_number
from crossfarers.verdicts import check_class


def length_rule(world):
    """Return "zero", "all" or "even": how the numbers of deeds go on behind the fewest."""
    if settling_pair(world) is not None:
        return "all"
    return "even" if deed_count(world) > 0 else "zero"


def settling_pair(world):
    """Return the first deed of two travellers who settle in one town on one day, or None."""
    for x, y, day in deeds_of(world):
        if world.last(x) == day and world.last(y) == day:
            return (x, y, day)
    return None


def parity(world, target):
    """Return the fewest deeds modulo 2, or None if both parities occur."""
    check_class(world, target)
    if settling_pair(world) is not None:
        return None
    return row_cost(world, target, some_row(world, target)) % 2


def has_length(world, target, number):
    """Tell whether a history of exactly this number of deeds leads to the target."""
    check(is_number(number), "number")
    return is_length(length_rule(world), number, fewest(world, target))


def lengths_upto(world, target, bound):
    """Return all numbers of deeds up to the bound that a history to the target may have."""
    check(is_number(bound) and bound <= MOST_DEEDS, "bound")
    least = fewest(world, target)
    rule = length_rule(world)
    return [number for number in range(bound + 1) if is_length(rule, number, least)]


def history_of_length(world, target, number):
    """Return a history of exactly this number of deeds that leads to the target."""
    check(is_number(number), "number")
    history = least_history(world, target)
    if not is_length(length_rule(world), number, len(history)):
        raise NoLength(number)
    if number > MOST_DEEDS:
        raise TooMany("deeds", number)
    pair = settling_pair(world)
    # An idle deed may be done any number of times, any other one an even number of times.
    idling = deeds_of(world)[:1] if pair is None else [pair]
    return idling * (number - len(history)) + history


def is_length(rule, number, least):
    """Tell whether a history may have the number of deeds by the length rule and the fewest number."""
    if rule == "zero" or number < least:
        return number == least
    return rule == "all" or (number - least) % 2 == 0


def some_row(world, target):
    """Return a row of maps that pairs the users of each leg in ascending order."""
    row = [[] for _ in range(world.last_day + 1)]
    for leg, _ in ledger_of(world):
        row[leg[0]].extend(list(zip(users(target, leg), users(world, leg))))
    return [tuple(sorted(pairs)) for pairs in row]
