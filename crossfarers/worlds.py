"""Webs of towns, and worlds of travellers in them."""

from crossfarers.checks import are_name_pairs, are_names, check, check_town, check_traveller, first_repeated, is_series
from crossfarers.errors import NoWay, PlanOver, Repeated, SameTown, UnlikeFrames
from crossfarers.shapes import END, MOST_TOWNS, MOST_TRAVELLERS, is_day, is_name, is_plan


class Web:
    """Towns, and the ways that join them."""

    def __init__(self, towns, ways=()):
        check(are_towns(towns), "towns")
        check(are_name_pairs(ways), "ways")
        again = first_repeated(towns)
        if again is not None:
            raise Repeated(again)
        self._ways = tuple(sorted_ways(towns, ways))
        self._near = {town: near_towns(town, towns, self._ways) for town in sorted(towns)}

    @classmethod
    def full(cls, towns):
        """Return the web in which every two towns are joined."""
        check(are_towns(towns), "towns")
        ways = [(here, there) for here in towns for there in towns if here < there]
        return cls(towns, ways)

    @classmethod
    def chain(cls, towns):
        """Return the web in which each town is joined with the next one that is passed."""
        check(are_towns(towns), "towns")
        ways = list(zip(towns, towns[1:]))
        return cls(towns, ways)

    def __contains__(self, x):
        return is_name(x) and x in self._near

    def __iter__(self):
        return iter(self._near)

    def __eq__(self, other):
        return isinstance(other, Web) and self._near == other._near

    @property
    def towns(self):
        """The towns, ascending."""
        return tuple(self._near)

    @property
    def ways(self):
        """The ways, ascending, each with its lesser town first."""
        return self._ways

    def joins(self, here, there):
        """Tell whether the towns are joined, or the same."""
        check(is_name(here), "here")
        check(is_name(there), "there")
        check_town(self, here)
        check_town(self, there)
        return there in self._near[here]

    def near(self, town):
        """Return the towns that the town is joined with, itself too, ascending."""
        check(is_name(town), "town")
        check_town(self, town)
        return self._near[town]


class World:
    """A web, and travellers in it, each with a plan."""

    def __init__(self, web, plans):
        check(are_plans(plans) and len(plans) >= 1, "plans")
        for name in sorted(plans):
            check_plan(web, plans[name])
        self._web = web
        self._plans = {name: plans[name] for name in sorted(plans)}

    def __getitem__(self, at):
        check(is_name(at), "name")
        check_traveller(self, at)
        return self._plans[at]

    def __contains__(self, x):
        return is_name(x) and x in self._plans

    def __iter__(self):
        return iter(self._plans.items())

    def __eq__(self, other):
        return isinstance(other, World) and self._web == other._web and self._plans == other._plans

    @property
    def web(self):
        """The web."""
        return self._web

    @property
    def names(self):
        """The travellers, ascending."""
        return tuple(self._plans)

    @property
    def plans(self):
        """A new dict of the travellers, ascending, to their plans."""
        return dict(self._plans)

    @property
    def rows(self):
        """The pairs of a traveller and its plan, ascending."""
        return tuple(self._plans.items())

    @property
    def last_day(self):
        """The greatest last day of all plans."""
        return max([len(plan) for plan in self._plans.values()]) - 1

    def place(self, name, day):
        """Return the town of the traveller on the day, or END if the plan is over."""
        check(is_name(name), "name")
        check(is_day(day), "day")
        plan = self[name]
        return plan[day] if day < len(plan) else END

    def begin(self, name):
        """Return the start of the traveller."""
        return self[name][0]

    def last(self, name):
        """Return the last day of the plan of the traveller."""
        return len(self[name]) - 1

    def rest(self, name, day):
        """Return the towns of the plan of the traveller for the days after this one."""
        check(is_name(name), "name")
        check(is_day(day), "day")
        plan = self[name]
        if day >= len(plan):
            raise PlanOver(name, day)
        return plan[day + 1:]


def check_frames(world, other):
    """Raise UnlikeFrames unless both worlds are of one frame."""
    if world.web != other.web:
        raise UnlikeFrames("web")
    if world.names != other.names:
        raise UnlikeFrames("travellers")


def are_towns(value):
    """Tell whether the value has the shape of the towns of a web."""
    return is_series(value) and 1 <= len(value) <= MOST_TOWNS and are_names(value)


def sorted_ways(towns, ways):
    """Return the ways, ascending, each with its lesser town first, or refuse the first wrong one."""
    found = []
    for here, there in ways:
        for town in (here, there):
            check_town(towns, town)
        if here == there:
            raise SameTown(here)
        way = (min(here, there), max(here, there))
        if way in found:
            raise Repeated(way)
        found.append(way)
    return sorted(found)


def near_towns(town, towns, ways):
    """Return the tuple of the town itself and the towns that a way joins with it, ascending."""
    joined = [other for other in towns if (min(town, other), max(town, other)) in ways]
    return tuple(sorted([town] + joined))


def are_plans(value):
    """Tell whether the value is a dict of names to plans, but not too many."""
    if not isinstance(value, dict) or len(value) > MOST_TRAVELLERS:
        return False
    return all([is_name(name) and is_plan(plan) for name, plan in value.items()])


def check_plan(web, plan):
    """Raise what is wrong with the plan in this web, if anything is."""
    for town in plan:
        check_town(web, town)
    for day in range(len(plan) - 1):
        if not web.joins(plan[day], plan[day + 1]):
            raise NoWay(day, plan[day], plan[day + 1])
