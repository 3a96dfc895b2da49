"""Histories as threads: each deed named by the tokens by which its two travellers arrive."""

from crossfarers.bags import Bag
from crossfarers.checks import check
from crossfarers.deeds import check_step, crossing_of, replay, rests_exchanged
from crossfarers.errors import NoShuffle, NotJoining, StepRefused
from crossfarers.ledgers import crossings_of, standing
from crossfarers.orders import exchanges, is_table
from crossfarers.shapes import LAST_DAY, MOST_DEEDS, is_crossing, is_deed, is_history, is_tuple_of
from crossfarers.worlds import World


def threads_of(world, history):
    """Return the thread deeds of the history."""
    replay(world, history)
    arrivals = first_arrivals(world)
    threads = []
    for deed in history:
        x, y, day = deed
        threads.append((arrivals[x][day], arrivals[y][day], day))
        arrivals = rests_exchanged(arrivals, deed)
    return threads


def history_of(world, threads):
    """Return the history with these threads."""
    check_threads(world, threads)
    arrivals = first_arrivals(world)
    history = []
    for p, q, day in threads:
        deed = (arriving_by(arrivals, p, day), arriving_by(arrivals, q, day), day)
        history.append(deed)
        arrivals = rests_exchanged(arrivals, deed)
    return history


def joinings_of(world, threads):
    """Return the pairs of each crossing and its table after the threads, ascending."""
    check_threads(world, threads)
    images = {crossing: {name: name for name in standing(world, crossing)} for crossing in crossings_of(world)}
    for thread in threads:
        p, q, _ = thread
        row = images[crossing_of(world, thread)]
        row[p], row[q] = row[q], row[p]
    return [(crossing, tuple(row.items())) for crossing, row in images.items()]


def world_of_joinings(world, joinings):
    """Return the world whose travellers go on at each crossing as its table tells."""
    check(are_joinings(joinings), "joinings")
    crossings = crossings_of(world)
    for at, (crossing, table) in enumerate(joinings):
        if crossings[at:at + 1] != [crossing] or [name for name, _ in table] != standing(world, crossing):
            raise NotJoining(crossing)
    if len(joinings) < len(crossings):
        raise NotJoining(crossings[len(joinings)])
    images = {crossing: dict(table) for crossing, table in joinings}
    return World(world.web, {name: followed(world, images, name) for name in world.names})


def split_history(world, history):
    """Return the pairs of a crossing and its thread deeds, for each crossing at which the history has a deed."""
    parts = {}
    for thread in threads_of(world, history):
        parts.setdefault(crossing_of(world, thread), []).append(thread)
    return [(crossing, parts[crossing]) for crossing in sorted(parts)]


def order_of(world, history):
    """Return the crossings of the deeds of the history."""
    return [crossing_of(world, thread) for thread in threads_of(world, history)]


def shuffled(world, parts, order):
    """Return the history that takes the thread deeds of the parts in the order of the crossings."""
    check(are_parts(parts), "parts")
    check(is_order(order), "order")
    unlike = Bag(order).first_unlike(Bag([crossing for crossing, threads in parts for _ in threads]))
    if unlike is not None:
        raise NoShuffle(unlike[0])
    rows = {crossing: threads for crossing, threads in parts}
    taken = [rows[crossing][order[:at].count(crossing)] for at, crossing in enumerate(order)]
    for at, thread in enumerate(taken):
        check_step(world, thread, at)
        if crossing_of(world, thread) != order[at]:
            raise StepRefused(at, "WrongCrossing")
    return history_of(world, taken)


def normal_form(world, history):
    """Return the alike history with days descending and towns ascending within a day."""
    parts = split_history(world, history)
    return [thread for _, threads in latest_first(parts) for thread in threads]


def histories_alike(world, first, second):
    """Tell whether both histories have the same threads at each crossing."""
    check(is_history(first), "first")
    check(is_history(second), "second")
    return split_history(world, first) == split_history(world, second)


def shortened(world, history):
    """Return the normal form with the same joinings that has the fewest deeds."""
    joinings = joinings_of(world, threads_of(world, history))
    return [(p, q, crossing[0]) for crossing, table in latest_first(joinings) for p, q in exchanges(table)]


def first_arrivals(world):
    """Return the dict of each traveller to the row of the travellers by whom it arrives, day by day."""
    return {name: (name,) * len(plan) for name, plan in world}


def arriving_by(arrivals, name, day):
    """Return the traveller that arrives by this one on the day."""
    return [traveller for traveller, row in arrivals.items() if row[day:day + 1] == (name,)][0]


def followed(world, images, name):
    """Return the plan of the traveller, who takes the token of its image at each crossing."""
    towns = (world.begin(name),)
    present = name
    for day in range(world.last_day + 1):
        present = images[(day, towns[day])][present]
        rest = world.rest(present, day)
        if rest == ():
            break
        towns = towns + rest[:1]
    return towns


def latest_first(pairs):
    """Return ascending pairs of a crossing and something else with their days descending."""
    return [pair for day in range(LAST_DAY, -1, -1) for pair in pairs if pair[0][0] == day]


def check_threads(world, threads):
    """Raise BadShape or StepRefused unless these are threads that fit the world."""
    check(is_history(threads), "threads")
    for at, thread in enumerate(threads):
        check_step(world, thread, at)


def are_joinings(value):
    """Tell whether the value is a list of pairs of a crossing and an ascending table."""
    if not isinstance(value, list):
        return False
    return all([is_tuple_of(pair, 2) and is_crossing(pair[0]) and is_ascending_table(pair[1]) for pair in value])


def is_ascending_table(value):
    """Tell whether the value is a tuple that is a table with its pairs ascending."""
    return isinstance(value, tuple) and is_table(value) and list(value) == sorted(value)


def are_parts(value):
    """Tell whether the value has the shape of a split history."""
    if not isinstance(value, list) or not all([is_tuple_of(pair, 2) and is_part(pair[0], pair[1]) for pair in value]):
        return False
    crossings = [crossing for crossing, _ in value]
    many = sum([len(threads) for _, threads in value])
    return crossings == sorted(set(crossings)) and many <= MOST_DEEDS


def is_part(crossing, threads):
    """Tell whether these are a crossing and a list of one or more thread deeds on its day."""
    if not is_crossing(crossing) or not isinstance(threads, list) or not threads:
        return False
    return all([is_deed(thread) and thread[2] == crossing[0] for thread in threads])


def is_order(value):
    """Tell whether the value is a list of crossings, but not too many."""
    return isinstance(value, list) and len(value) <= MOST_DEEDS and all([is_crossing(part) for part in value])
