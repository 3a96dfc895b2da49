"""How many travellers can pass a goal or keep away from it, cuts that prove it, and the ways of one traveller."""

from crossfarers.bags import counted
from crossfarers.checks import check, check_place, check_town, check_traveller, is_name_list
from crossfarers.deeds import done
from crossfarers.ledgers import ledger_of, led_on, legs_of, users, world_led_on
from crossfarers.shapes import END, MOST_TRAVELLERS, is_crossing, is_leg, is_name, is_number

# The ends of a flow; its other places are crossings.
SOURCE = "source"
SINK = "sink"


def passing(world, names, goal, *, around=False):
    """Return the told travellers who pass the goal in this world, or do not if `around`, ascending."""
    check_question(world, names, goal, around)
    return [name for name in sorted(names) if passes(world[name], goal) != around]


def most(world, names, goal, *, around=False):
    """Return the greatest number of told travellers who pass the goal in a world of the class, or do not."""
    check_question(world, names, goal, around)
    arcs = arcs_of(world, names, goal, around)
    left = left_of(arcs)
    return sum([number - left[arc] for arc, number in arcs.items() if arc[0] == SOURCE])


def most_world(world, names, goal, *, around=False):
    """Return a world of the class in which as many told travellers as can pass the goal, or do not."""
    check_question(world, names, goal, around)
    arcs = arcs_of(world, names, goal, around)
    left = left_of(arcs)
    numbers = {}
    for leg, _ in ledger_of(world):
        arc = (leg[:2], head_of(leg, goal, around))
        if arc in arcs:
            numbers[leg] = arcs[arc] - left[arc]
    carried = counted(numbers)
    rows = led_on({name: (world.begin(name),) for name in names}, carried)
    for name, plan in world:
        rows.setdefault(name, plan[:1])
    return world_led_on(world.web, rows, ledger_of(world) - carried)


def least_cut(world, names, goal, *, around=False):
    """Return a cut whose size is the most."""
    check_question(world, names, goal, around)
    found = reached_in(left_of(arcs_of(world, names, goal, around)))
    return sorted([node for node in found if node != SOURCE])


def cut_size(world, names, goal, cut, *, around=False):
    """Return the size of the cut."""
    check_shapes(names, goal)
    check(is_cut_for(cut, goal), "cut")
    check(isinstance(around, bool), "around")
    check_known(world, names, goal)
    for _, town in cut:
        check_town(world.web, town)
    return size_of(cut, arcs_of(world, names, goal, around))


def is_cut(world, names, goal, paper, bound, *, around=False):
    """Judge whether the paper is a cut of towns of the web whose size is at most the bound."""
    check_shapes(names, goal)
    check(is_number(bound), "bound")
    check(isinstance(around, bool), "around")
    check_known(world, names, goal)
    if not is_cut_for(paper, goal) or not all([town in world.web for _, town in paper]):
        return False
    return size_of(paper, arcs_of(world, names, goal, around)) <= bound


def may_pass(world, name, goal):
    """Tell whether the traveller passes the goal in some world of the class."""
    return way_through(world, name, goal) is not None


def must_pass(world, name, goal):
    """Tell whether the traveller passes the goal in every world of the class."""
    return way_around(world, name, goal) is None


def way_through(world, name, goal):
    """Return the least used way of the traveller that passes the goal, or None."""
    return least_way(world, name, goal, True)


def way_around(world, name, goal):
    """Return the least used way of the traveller that does not pass the goal, or None."""
    return least_way(world, name, goal, False)


def bring_history(world, name, crossing):
    """Return deeds that bring the traveller to the crossing, or None if it cannot be brought."""
    check(is_name(name), "name")
    check(is_crossing(crossing), "crossing")
    way = way_through(world, name, crossing)
    if way is None:
        return None
    if passes(world[name], crossing):
        return []
    history = []
    present = world
    for day in range(crossing[0]):
        if present.place(name, day + 1) != way[day + 1]:
            deed = (name, users(present, legs_of(way)[day])[0], day)
            history.append(deed)
            present = done(present, deed)
    return history


def check_question(world, names, goal, around):
    """Raise what is wrong with a question that has no other parameters, if anything is."""
    check_shapes(names, goal)
    check(isinstance(around, bool), "around")
    check_known(world, names, goal)


def check_shapes(names, goal):
    """Raise BadShape unless these are told travellers and a goal."""
    check(is_name_list(names, MOST_TRAVELLERS), "names")
    check(is_goal(goal), "goal")


def is_goal(value):
    """Tell whether the value is a crossing or a leg."""
    return is_crossing(value) or is_leg(value)


def is_cut_for(value, goal):
    """Tell whether the value is a list of crossings, strictly ascending, without the goal."""
    if not isinstance(value, list) or not all([is_crossing(crossing) for crossing in value]):
        return False
    return value == sorted(set(value)) and goal not in value


def check_known(world, names, goal):
    """Raise what the world does not know: the first traveller, or else the first town of the goal."""
    for name in names:
        check_traveller(world, name)
    for place in goal[1:]:
        check_place(world.web, place)


def passes(plan, goal):
    """Tell whether the plan passes the goal."""
    return any([goal in (leg, leg[:2]) for leg in legs_of(plan)])


def head_of(leg, goal, around):
    """Return the place to which a leg carries units, or None if it carries none."""
    day, _, there = leg
    crossing = (day + 1, there)
    if goal in (leg, crossing):
        return None if around else SINK
    if there == END:
        return SINK if around else None
    return crossing


def arcs_of(world, names, goal, around):
    """Return the dict of the pairs of two places between which units may go to how many may."""
    arcs = {}
    for name in names:
        # To begin is like coming to the first crossing from a day before day 0.
        arc = (SOURCE, head_of((-1, name, world.begin(name)), goal, around))
        arcs[arc] = arcs.get(arc, 0) + 1
    for leg, number in ledger_of(world):
        arcs[(leg[:2], head_of(leg, goal, around))] = number
    return {arc: number for arc, number in arcs.items() if arc[1] is not None}


def left_of(arcs):
    """Return what a greatest flow leaves of the arcs, with what it carries told for the turned arcs."""
    left = {arc: number for arc, number in arcs.items()}
    path = path_in(left)
    while path:
        for here, there in zip(path, path[1:]):
            left[(here, there)] = left[(here, there)] - 1
            left[(there, here)] = left.get((there, here), 0) + 1
        path = path_in(left)
    return left


def path_in(left):
    """Return the places of a path from the source to the sink, or an empty list."""
    found = reached_in(left)
    if SINK not in found:
        return []
    path = [SINK]
    while path[-1] != SOURCE:
        path.append(found[path[-1]])
    return path[::-1]


def reached_in(left):
    """Return the dict of each place that can be reached from the source to the place before it."""
    found = {SOURCE: SOURCE}
    wave = [SOURCE]
    while wave:
        later = []
        for (here, there), number in left.items():
            if number > 0 and here in wave and there not in found:
                found[there] = here
                later.append(there)
        wave = later
    return found


def size_of(cut, arcs):
    """Return how many units may go from the source or the cut to other places."""
    return sum([number for (here, there), number in arcs.items() if here in [SOURCE, *cut] and there not in cut])


def least_way(world, name, goal, wanted):
    """Return the least used way of which it is as wanted that it passes the goal, or None."""
    check(is_name(name), "name")
    check(is_goal(goal), "goal")
    check_known(world, [name], goal)
    for way in used_ways(world, name):
        if passes(way, goal) == wanted:
            return way
    return None


def used_ways(world, name):
    """Return all used ways of the traveller, ascending."""
    legs = [leg for leg, _ in ledger_of(world)]
    rows = [(world.begin(name),)]
    found = []
    for day in range(world.last_day + 1):
        # No leg goes on from END, so a row that ends with it is left out on the next day.
        rows = [row + (there,) for row in rows for now, here, there in legs if (now, here) == (day, row[day])]
        found.extend([row[:-1] for row in rows if row[-1] == END])
    return sorted(found)
