"""The fewest deeds between two worlds of one class, and tables that prove a bound."""

from math import factorial

from crossfarers.checks import are_name_pairs, check
from crossfarers.deeds import is_leading
from crossfarers.errors import NotMap, TooMany
from crossfarers.ledgers import ledger_of, legs_of
from crossfarers.orders import cost, exchanges
from crossfarers.shapes import is_day, is_number, is_tuple_of
from crossfarers.threads import history_of
from crossfarers.verdicts import check_class

MOST_MAPS = 24
MOST_MAP_PAIRS = 1200


def map_count(world, target, day):
    """Return the number of maps of the day."""
    check(is_day(day), "day")
    check_class(world, target)
    return count_on(world, day)


def maps_on(world, target, day):
    """Return all maps of the day, ascending."""
    check(is_day(day), "day")
    check_class(world, target)
    number = count_on(world, day)
    if number > MOST_MAPS:
        raise TooMany("maps", number)
    return all_maps(world, target, day)


def step_cost(world, target, day, before, after):
    """Return the step cost of the day between a map of the day before and one of this day."""
    check(is_day(day), "day")
    check(are_images(before), "before")
    check(are_images(after), "after")
    check_class(world, target)
    if not is_map(world, target, day - 1, before):
        raise NotMap(day - 1)
    if not is_map(world, target, day, after):
        raise NotMap(day)
    return cost(table_between(before, after))


def row_cost(world, target, row):
    """Return the sum of the step costs of a row of maps."""
    check(isinstance(row, list) and all([are_images(part) for part in row]), "row")
    check_class(world, target)
    days = world.last_day + 1
    for day in range(days):
        if day >= len(row) or not is_map(world, target, day, row[day]):
            raise NotMap(day)
    if len(row) > days:
        raise NotMap(days)
    return sum([cost(table) for table in tables_of(world, row)])


def fewest(world, target):
    """Return the fewest deeds of a history from the world to the target."""
    return min([number for _, number in bound_table(world, target)[-1]])


def day_bound(world, target):
    """Return the sum over the days of the least step cost of each day."""
    check_search(world, target)
    total = 0
    befores = [first_map(world)]
    for day in range(world.last_day + 1):
        afters = all_maps(world, target, day)
        total = total + min([cost(table_between(before, after)) for before in befores for after in afters])
        befores = afters
    return total


def least_row(world, target):
    """Return a row of maps whose row cost is the fewest number of deeds."""
    row = []
    for entry in bound_table(world, target)[::-1]:
        sums = [number for _, number in entry]
        if row:
            sums = [number + cost(table_between(before, row[-1])) for before, number in entry]
        row.append(entry[sums.index(min(sums))][0])
    return row[::-1]


def least_history(world, target):
    """Return a history from the world to the target with as few deeds as possible."""
    tables = tables_of(world, least_row(world, target))
    return history_of(world, [(p, q, day) for day, table in enumerate(tables) for p, q in exchanges(table)])


def bound_table(world, target):
    """Return for each day its maps, each with the least cost of a beginning of a row that ends with it."""
    check_search(world, target)
    table = []
    earlier = [(first_map(world), 0)]
    for day in range(world.last_day + 1):
        earlier = [(after, least_sum(earlier, after)) for after in all_maps(world, target, day)]
        table.append(earlier)
    return table


def is_bound_table(world, target, paper, bound):
    """Judge whether the paper is a bound table that is right for the bound."""
    check(is_number(bound), "bound")
    check_search(world, target)
    if not isinstance(paper, list) or len(paper) != world.last_day + 1:
        return False
    earlier = [(first_map(world), 0)]
    for day, entry in enumerate(paper):
        if not is_entry(entry, all_maps(world, target, day)):
            return False
        if not all([number <= least_sum(earlier, after) for after, number in entry]):
            return False
        earlier = entry
    return all([number >= bound for _, number in earlier])


def is_least_history(world, target, paper, table):
    """Judge whether the paper is a history to the target, and the table proves that none has fewer deeds."""
    check_search(world, target)
    return is_leading(world, target, paper) and is_bound_table(world, target, table, len(paper))


def count_on(world, day):
    """Return the product of the factorials of the numbers of the legs of the day."""
    count = 1
    for leg, number in ledger_of(world):
        if leg[0] == day:
            count = count * factorial(number)
    return count


def check_search(world, target):
    """Raise UnlikeFrames, UnlikeClasses or TooMany unless all maps may be gone through."""
    check_class(world, target)
    counts = [count_on(world, day) for day in range(world.last_day + 1)]
    for number in counts:
        if number > MOST_MAPS:
            raise TooMany("maps", number)
    pairs = sum([before * after for before, after in zip([1] + counts, counts)])
    if pairs > MOST_MAP_PAIRS:
        raise TooMany("pairs", pairs)


def first_map(world):
    """Return the identity on all travellers."""
    return tuple([(name, name) for name in world.names])


def legs_on(world, day):
    """Return the dict of the travellers who have a leg on the day, ascending, to this leg."""
    return {name: legs_of(plan)[day] for name, plan in world if day < len(plan)}


def all_maps(world, target, day):
    """Return all maps of the day, ascending, however many."""
    legs = legs_on(world, day)
    rows = [()]
    for name, leg in legs_on(target, day).items():
        users = [user for user in legs if legs[user] == leg]
        rows = [row + ((name, user),) for row in rows for user in users if user not in [image for _, image in row]]
    return rows


def is_map(world, target, day, pairs):
    """Tell whether the pairs are a map of the day, or the first map if the day is -1."""
    if day < 0:
        return pairs == first_map(world)
    legs = legs_on(world, day)
    wanted = legs_on(target, day)
    if [name for name, _ in pairs] != list(wanted) or sorted([image for _, image in pairs]) != list(legs):
        return False
    return all([legs[image] == wanted[name] for name, image in pairs])


def table_between(before, after):
    """Return the table from the images in a map to those of the same travellers in the next map."""
    images = {name: image for name, image in before}
    return [(images[name], image) for name, image in after]


def tables_of(world, row):
    """Return the tables between the maps of a row, with the first map before them."""
    return [table_between(before, after) for before, after in zip([first_map(world)] + row, row)]


def least_sum(earlier, after):
    """Return the least sum of the number of an earlier map and the step cost from it to this map."""
    return min([number + cost(table_between(before, after)) for before, number in earlier])


def are_images(value):
    """Tell whether the value is a tuple of pairs of names."""
    return isinstance(value, tuple) and are_name_pairs(value)


def is_entry(value, maps):
    """Tell whether the value is a list of the pairs of each of these maps and a number."""
    if not isinstance(value, list) or not all([is_tuple_of(pair, 2) and is_number(pair[1]) for pair in value]):
        return False
    return [pair[0] for pair in value] == maps
