"""Claims about a world, each with a paper, and judging them."""

from crossfarers.checks import check
from crossfarers.deeds import is_leading
from crossfarers.errors import BadShape, UnknownTown, UnknownTraveller
from crossfarers.fewest import check_search, is_bound_table
from crossfarers.flows import cut_size, passing
from crossfarers.shapes import is_number
from crossfarers.stretches import is_verdict_within
from crossfarers.verdicts import is_of_class, is_verdict
from crossfarers.wishes import is_grant
from crossfarers.worlds import World, check_frames

# How many parts a claim of each kind has, its kind too.
PARTS = {"class": 3, "within": 4, "fewest": 5, "grant": 3, "most": 6}
WITH_TARGET = ("class", "within", "fewest")


def is_claim(value):
    """Tell whether the value has the shape of a claim."""
    if not isinstance(value, tuple) or value == () or not isinstance(value[0], str):
        return False
    if len(value) != PARTS.get(value[0], 0):
        return False
    return value[0] not in WITH_TARGET or isinstance(value[1], World)


def judged(world, claim):
    """Tell whether the claim about the world is right."""
    check(is_claim(claim), "claim")
    if claim[0] in WITH_TARGET:
        check_frames(world, claim[1])
    # A part that a function refuses makes the claim wrong.
    try:
        return is_right(world, claim)
    except (BadShape, UnknownTraveller, UnknownTown):
        return False


def is_right(world, claim):
    """Tell whether the claim is right, or raise what is wrong with one of its parts."""
    kind = claim[0]
    if kind == "class":
        return is_verdict(world, claim[1], claim[2])
    if kind == "within":
        return is_verdict_within(world, claim[1], claim[2], claim[3])
    if kind == "grant":
        return is_grant(world, claim[1], claim[2])
    return is_right_fewest(world, claim) if kind == "fewest" else is_right_most(world, claim)


def is_right_fewest(world, claim):
    """Tell whether a claim of the fewest deeds is right."""
    _, target, number, history, table = claim
    if not is_of_class(world, target):
        return False
    # Whether the search is too great is asked ahead of all other parts.
    check_search(world, target)
    if not is_leading(world, target, history) or len(history) != number:
        return False
    return is_bound_table(world, target, table, number)


def is_right_most(world, claim):
    """Tell whether a claim of the most travellers who pass a goal is right."""
    _, names, goal, number, other, cut = claim
    if not is_number(number) or not is_of_class(world, other):
        return False
    return len(passing(other, names, goal)) == number and cut_size(world, names, goal, cut) == number
