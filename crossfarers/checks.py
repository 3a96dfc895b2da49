"""What several files of the package check in the same way."""

from crossfarers.errors import BadShape, UnknownTown, UnknownTraveller
from crossfarers.shapes import END, is_name, is_tuple_of


def check(fits, parameter):
    """Raise BadShape of the parameter unless its value fits."""
    if not fits:
        raise BadShape(parameter)


def check_town(towns, town):
    """Raise UnknownTown unless the town is among the towns, which are a web or a list."""
    if town not in towns:
        raise UnknownTown(town)


def check_place(towns, place):
    """Raise UnknownTown if the place is a town, but not among the towns."""
    if place != END:
        check_town(towns, place)


def check_traveller(world, name):
    """Raise UnknownTraveller unless the world has the traveller."""
    if name not in world:
        raise UnknownTraveller(name)


def check_sighted(world, sightings):
    """Raise what the world does not know of the first sighting that has an unknown traveller or town."""
    for name, _, place in sightings:
        check_traveller(world, name)
        check_place(world.web, place)


def is_series(value):
    """Tell whether the value is a list or a tuple."""
    return isinstance(value, (list, tuple))


def are_name_pairs(value):
    """Tell whether the value is a list or tuple of tuples of two names."""
    return is_series(value) and all([is_tuple_of(pair, 2) and are_names(pair) for pair in value])


def are_names(values):
    """Tell whether all parts of a list or tuple are names."""
    return all([is_name(value) for value in values])


def is_name_list(value, limit):
    """Tell whether the value is a list of unlike names, and has no more of them than the limit."""
    return isinstance(value, list) and len(value) <= limit and are_names(value) and are_unlike(value)


def first_repeated(things):
    """Return the first thing that stood before, or None if there is none."""
    seen = set()
    for thing in things:
        if thing in seen:
            return thing
        seen.add(thing)
    return None


def are_unlike(things):
    """Tell whether no thing stands twice."""
    return first_repeated(things) is None
