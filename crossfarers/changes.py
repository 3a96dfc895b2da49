"""Worlds made of worlds: renamed, shifted, joined, chosen, united."""

from crossfarers.checks import (
    are_name_pairs, are_unlike, check, check_town, check_traveller, first_repeated, is_name_list,
)
from crossfarers.errors import PlanTooLong, Repeated, SameTown, TooMany, UnlikeFrames
from crossfarers.shapes import LAST_DAY, MOST_TRAVELLERS, is_day, is_name
from crossfarers.worlds import Web, World


def renamed(world, *, travellers=(), towns=()):
    """Return the world with new names for the old ones of the pairs, replaced all at once."""
    check(is_renaming(travellers), "travellers")
    check(is_renaming(towns), "towns")
    for old, _ in travellers:
        check_traveller(world, old)
    for old, _ in towns:
        check_town(world.web, old)
    names = new_names(world.names, travellers)
    stops = new_names(world.web.towns, towns)
    ways = [(stops[here], stops[there]) for here, there in world.web.ways]
    plans = {names[name]: replaced(plan, stops) for name, plan in world}
    return World(Web(list(stops.values()), ways), plans)


def shifted(world, days):
    """Return the world in which each traveller stays in its start for these days first."""
    check(is_day(days), "days")
    for name, plan in world:
        if len(plan) + days > LAST_DAY + 1:
            raise PlanTooLong(name)
    return World(world.web, {name: plan[:1] * days + plan for name, plan in world})


def town_joined(world, keep, gone):
    """Return the world in which the town `keep` stands for the town `gone`, too."""
    check(is_name(keep), "keep")
    check(is_name(gone), "gone")
    check_town(world.web, keep)
    check_town(world.web, gone)
    if keep == gone:
        raise SameTown(keep)
    stops = {town: town for town in world.web.towns if town != gone}
    towns = list(stops)
    stops[gone] = keep
    moved = [replaced(way, stops) for way in world.web.ways]
    ways = sorted({(min(way), max(way)) for way in moved if way[0] != way[1]})
    return World(Web(towns, ways), {name: replaced(plan, stops) for name, plan in world})


def chosen(world, names):
    """Return the world with the plans of these travellers alone."""
    check(is_name_list(names, MOST_TRAVELLERS) and len(names) >= 1, "names")
    return World(world.web, {name: world[name] for name in names})


def united(world, other):
    """Return the world with the plans of both worlds."""
    if world.web != other.web:
        raise UnlikeFrames("web")
    for name in world.names:
        if name in other:
            raise Repeated(name)
    plans = {name: plan for name, plan in list(world) + list(other)}
    if len(plans) > MOST_TRAVELLERS:
        raise TooMany("travellers", len(plans))
    return World(world.web, plans)


def is_renaming(value):
    """Tell whether the value is a list or tuple of pairs of an old and a new name, with unlike old names."""
    return are_name_pairs(value) and are_unlike([old for old, _ in value])


def new_names(names, pairs):
    """Return the dict of each name to its new one, or refuse the least new name that two would have."""
    found = {name: name for name in names}
    for old, new in pairs:
        found[old] = new
    again = first_repeated(sorted(found.values()))
    if again is not None:
        raise Repeated(again)
    return found


def replaced(row, stops):
    """Return the tuple of what stands in a dict for each town of a row."""
    return tuple([stops[town] for town in row])
