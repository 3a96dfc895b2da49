"""Legs and ledgers, and the first world that has a ledger."""

from crossfarers.bags import Bag, added
from crossfarers.checks import are_name_pairs, are_unlike, check, check_place, check_town
from crossfarers.errors import NoWay, Unbalanced
from crossfarers.shapes import END, MOST_TRAVELLERS, is_crossing, is_leg, is_plan
from crossfarers.worlds import World


def legs_of(plan):
    """Return the legs of the plan, days ascending."""
    check(is_plan(plan), "plan")
    stops = plan + (END,)
    return [(day, plan[day], stops[day + 1]) for day in range(len(plan))]


def plan_of(legs):
    """Return the plan that has these legs."""
    check(are_plan_legs(legs), "legs")
    return tuple([leg[1] for leg in legs])


def ledger_of(world):
    """Return the bag of the legs of all plans."""
    return Bag([leg for _, plan in world for leg in legs_of(plan)])


def starts_of(world):
    """Return the pairs of each traveller and its start, ascending."""
    return [(name, plan[0]) for name, plan in world]


def standing(world, crossing):
    """Return the travellers who stand at the crossing, ascending."""
    check(is_crossing(crossing), "crossing")
    day, town = crossing
    check_town(world.web, town)
    return [name for name in world.names if world.place(name, day) == town]


def users(world, leg):
    """Return the travellers who use the leg, ascending."""
    check(is_leg(leg), "leg")
    check_leg_towns(world.web, leg)
    return [name for name, plan in world if leg in legs_of(plan)]


def crossings_of(world):
    """Return the crossings at which someone stands, ascending."""
    return [crossing for crossing, _ in leaving(ledger_of(world))]


def sizes(legs):
    """Return the pairs of a crossing and the number of uses of legs that leave it, ascending."""
    check(are_legs(legs), "legs")
    return list(leaving(legs))


def first_unbalanced(starts, legs):
    """Return the least crossing that does not balance, with how many arrive and leave, or None."""
    check(are_starts(starts), "starts")
    check(are_legs(legs), "legs")
    return arriving(starts, legs).first_unlike(leaving(legs))


def world_of(web, starts, legs):
    """Return the first world of the starts and the ledger."""
    unbalanced = first_unbalanced(starts, legs)
    for _, town in starts:
        check_town(web, town)
    for leg, _ in legs:
        check_leg_towns(web, leg)
    for (day, here, there), _ in legs:
        if there != END and not web.joins(here, there):
            raise NoWay(day, here, there)
    if unbalanced is not None:
        crossing, many, others = unbalanced
        raise Unbalanced(crossing, many, others)
    return world_led_on(web, {name: (town,) for name, town in starts}, legs)


def led_on(rows, legs):
    """Return the dict of the rows of stops, led on by the legs; least travellers and legs go first.

    A row that ends with END has settled. The legs may lead all others to END, or only some of them, and not as far.
    """
    found = {name: row for name, row in rows.items()}
    waiting = {}
    for name, row in rows.items():
        if row[-1] != END:
            waiting.setdefault((len(row) - 1, row[-1]), []).append(name)
    # The legs ascend, so all legs that lead to a crossing are taken before the first one that leaves it.
    for day, here, there in legs.things():
        names = waiting[(day, here)]
        name = min(names)
        names.remove(name)
        found[name] = found[name] + (there,)
        if there != END:
            waiting.setdefault((day + 1, there), []).append(name)
    return found


def world_led_on(web, rows, legs):
    """Return the world whose travellers begin with the rows and are led on by the legs until all have settled."""
    return World(web, {name: row[:-1] for name, row in led_on(rows, legs).items()})


def leaving(legs):
    """Return the bag of the crossings that the legs leave, each once for each use."""
    return added([(leg[:2], number) for leg, number in legs])


def arriving(starts, legs):
    """Return the bag of the crossings that the starts and the legs lead to, each once for each use."""
    heads = [((day + 1, there), number) for (day, _, there), number in legs if there != END]
    return added([((0, town), 1) for _, town in starts] + heads)


def check_leg_towns(web, leg):
    """Raise UnknownTown for the first town of the leg that the web does not have."""
    _, here, there = leg
    check_town(web, here)
    check_place(web, there)


def are_plan_legs(value):
    """Tell whether the value is the list of the legs of some plan."""
    if not isinstance(value, list) or not all([is_leg(leg) for leg in value]):
        return False
    plan = tuple([leg[1] for leg in value])
    return is_plan(plan) and legs_of(plan) == value


def are_legs(value):
    """Tell whether the value is a bag of legs."""
    return isinstance(value, Bag) and all([is_leg(thing) for thing, _ in value])


def are_starts(value):
    """Tell whether the value is a list of pairs of unlike travellers and their starts."""
    if not isinstance(value, list) or not 1 <= len(value) <= MOST_TRAVELLERS:
        return False
    return are_name_pairs(value) and are_unlike([name for name, _ in value])
