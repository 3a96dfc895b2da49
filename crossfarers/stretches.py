"""Deeds in open towns alone, and the stretches of plans between open towns."""

from crossfarers.bags import Bag, added
from crossfarers.checks import check, check_town, is_name_list
from crossfarers.deeds import crossing_of, is_leading, worlds_along
from crossfarers.orders import arrangements
from crossfarers.shapes import END, MOST_TOWNS, is_day, is_place, is_tuple_of
from crossfarers.verdicts import are_unlike_numbers, sorted_deeds, stretch_from
from crossfarers.worlds import check_frames


def stretch_book(world, open_towns):
    """Return the bag of the stretches that begin at open crossings."""
    check_open(world, open_towns)
    return book_of(world, open_towns)


def first_stretches(world, open_towns):
    """Return the pairs of each traveller and its first stretch, ascending."""
    check_open(world, open_towns)
    return firsts_of(world, open_towns)


def one_class_within(world, target, open_towns):
    """Tell whether the target comes of the world by deeds within the open towns."""
    check_both(world, target, open_towns)
    return are_one_class(world, target, open_towns)


def class_count_within(world, open_towns):
    """Return the number of worlds that come of the world by deeds within the open towns."""
    check_open(world, open_towns)
    rows = {}
    for stretch in book_of(world, open_towns).things():
        rows.setdefault(beginning(stretch), []).append(stretch)
    count = 1
    for row in rows.values():
        count = count * arrangements(Bag(row))
    return count


def length_rule_within(world, open_towns):
    """Return "zero", "all" or "even": how the numbers of deeds within the open towns go on behind the fewest."""
    check_open(world, open_towns)
    book = book_of(world, open_towns)
    if all([size < 2 for _, size in added([(beginning(stretch), number) for stretch, number in book])]):
        return "zero"
    return "all" if any([number > 1 and stops[-1] == END for (_, stops), number in book]) else "even"


def verdict_within(world, target, open_towns):
    """Return a paper that says whether the target comes of the world by deeds within the open towns, and why."""
    check_both(world, target, open_towns)
    if are_one_class(world, target, open_towns):
        return ("history", sorted_deeds(world, target, open_towns))
    for (name, stretch), (_, other) in zip(firsts_of(world, open_towns), firsts_of(target, open_towns)):
        if stretch != other:
            return ("first", name, stretch, other)
    return ("stretch", *book_of(world, open_towns).first_unlike(book_of(target, open_towns)))


def is_verdict_within(world, target, open_towns, paper):
    """Judge whether the paper is a verdict within the open towns, and says what is so."""
    check_both(world, target, open_towns)
    if is_tuple_of(paper, 2):
        return paper[0] == "history" and is_leading_within(world, target, open_towns, paper[1])
    if not is_tuple_of(paper, 4):
        return False
    form, thing, first, second = paper
    if form == "first":
        return are_unlike_firsts(world, target, open_towns, thing, first, second)
    if form != "stretch" or not is_stretch(thing):
        return False
    return are_unlike_numbers(book_of(world, open_towns), book_of(target, open_towns), thing, first, second)


def check_open(world, open_towns):
    """Raise BadShape or UnknownTown unless these are open towns of the world."""
    check(are_open_towns(open_towns), "open_towns")
    check_open_known(world, open_towns)


def check_both(world, target, open_towns):
    """Raise what is wrong with a question about two worlds and open towns, if anything is."""
    check(are_open_towns(open_towns), "open_towns")
    check_frames(world, target)
    check_open_known(world, open_towns)


def check_open_known(world, open_towns):
    """Raise UnknownTown for the first open town that the web does not have."""
    for town in open_towns:
        check_town(world.web, town)


def are_open_towns(value):
    """Tell whether the value is a list of unlike names, but not too many."""
    return is_name_list(value, MOST_TOWNS)


def book_of(world, open_towns):
    """Return the bag of the stretches that begin at open crossings."""
    days = [(plan, day) for _, plan in world for day in range(len(plan)) if plan[day] in open_towns]
    return Bag([stretch_from(plan, day, open_towns) for plan, day in days])


def beginning(stretch):
    """Return the crossing at which the stretch begins."""
    day, stops = stretch
    return (day, stops[0])


def first_stretch(plan, open_towns):
    """Return the first stretch of the plan, which has one stop if the start is open."""
    if plan[0] in open_towns:
        return (0, plan[:1])
    return stretch_from(plan, 0, open_towns)


def firsts_of(world, open_towns):
    """Return the pairs of each traveller and its first stretch, ascending."""
    return [(name, first_stretch(plan, open_towns)) for name, plan in world]


def are_one_class(world, target, open_towns):
    """Tell whether first stretches and stretch books are equal."""
    if firsts_of(world, open_towns) != firsts_of(target, open_towns):
        return False
    return book_of(world, open_towns) == book_of(target, open_towns)


def is_leading_within(world, target, open_towns, paper):
    """Tell whether the paper is a history that leads to the target, and all its deeds are within the open towns."""
    if not is_leading(world, target, paper):
        return False
    return all([crossing_of(one, deed)[1] in open_towns for one, deed in zip(worlds_along(world, paper), paper)])


def are_unlike_firsts(world, target, open_towns, name, stretch, other):
    """Tell whether the traveller has these unlike first stretches in the two worlds."""
    if name not in world or not is_stretch(stretch) or not is_stretch(other) or stretch == other:
        return False
    return first_stretch(world[name], open_towns) == stretch and first_stretch(target[name], open_towns) == other


def is_stretch(value):
    """Tell whether the value is a tuple of a day and a tuple of places, as stretches are."""
    if not is_tuple_of(value, 2) or not is_day(value[0]) or not isinstance(value[1], tuple):
        return False
    return all([is_place(stop) for stop in value[1]])
