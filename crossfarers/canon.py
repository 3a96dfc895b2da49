"""Worlds that are the same but for the names of their towns or travellers."""

from itertools import permutations
from math import factorial

from crossfarers.bags import added
from crossfarers.checks import are_name_pairs, check
from crossfarers.errors import TooMany
from crossfarers.ledgers import ledger_of, standing
from crossfarers.shapes import END, LAST_DAY, is_name

MOST_ORDERS = 24


def profile(world, town):
    """Return the sizes of the crossings of the town on all days."""
    check(is_name(town), "town")
    return tuple([len(standing(world, (day, town))) for day in range(LAST_DAY + 1)])


def town_orders(world):
    """Return all town orders, ascending."""
    groups = groups_of(world)
    number = 1
    for group in groups:
        number = number * factorial(len(group))
    if number > MOST_ORDERS:
        raise TooMany("orders", number)
    orders = [()]
    for group in groups:
        # The permutations of an ascending list ascend, and so do the orders.
        orders = [order + part for order in orders for part in permutations(group)]
    return orders


def canonical_table(world):
    """Return the least numbered ledger over all town orders."""
    return min([numbered_ledger(world, order) for order in town_orders(world)])


def canonical_order(world):
    """Return the least town order that gives the canonical table."""
    return min([(numbered_ledger(world, order), order) for order in town_orders(world)])[1]


def town_pairing(world, other):
    """Return the town pairing by the canonical orders, or None if there is none."""
    table = canonical_table(world)
    if canonical_table(other) != table:
        return None
    return sorted(zip(canonical_order(world), canonical_order(other)))


def is_town_pairing(world, other, paper):
    """Judge whether the paper pairs the visited towns so that one ledger turns into the other one."""
    if not isinstance(paper, list) or not are_name_pairs(paper):
        return False
    if [first for first, _ in paper] != visited(world) or sorted([second for _, second in paper]) != visited(other):
        return False
    partners = {first: second for first, second in paper}
    partners[END] = END
    legs = [((day, partners[here], partners[there]), number) for (day, here, there), number in ledger_of(world)]
    return added(legs) == ledger_of(other)


def traveller_pairing(world, other):
    """Return the least traveller pairing, or None if there is none."""
    rows = sorted([(plan, name) for name, plan in world])
    others = sorted([(plan, name) for name, plan in other])
    if [plan for plan, _ in rows] != [plan for plan, _ in others]:
        return None
    return sorted([(first[1], second[1]) for first, second in zip(rows, others)])


def visited(world):
    """Return the towns in which someone stands on some day, ascending."""
    return [town for town in world.web if any([town in plan for _, plan in world])]


def groups_of(world):
    """Return the lists of the visited towns that share a profile, greater profiles first."""
    groups = {}
    for town in visited(world):
        groups.setdefault(profile(world, town), []).append(town)
    return [groups[shared] for shared in sorted(groups, reverse=True)]


def numbered_ledger(world, order):
    """Return the legs with the numbers of their towns in the order, each with its own number, ascending."""
    numbers = {town: at for at, town in enumerate(order)}
    numbers[END] = -1
    return sorted([(day, numbers[here], numbers[there], number) for (day, here, there), number in ledger_of(world)])
