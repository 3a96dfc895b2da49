"""What errands come to, and where two of them part."""

from crossfarers.classes import class_count, world_of_rank
from crossfarers.errors import ErrandStopped, TooMany

MOST_RUN_ON = 12


def end_of(world, errand):
    """Return the world at the end of the errand, or None if it stops."""
    try:
        return errand(world)[1]
    except ErrandStopped:
        return None


def alike_on(world, first, second):
    """Tell whether both errands end in equal worlds, or both stop."""
    return end_of(world, first) == end_of(world, second)


def parting_rank(world, first, second):
    """Return the least rank of a world of the class on which the errands are not alike, or None."""
    count = class_count(world)
    if count > MOST_RUN_ON:
        raise TooMany("worlds", count)
    for rank in range(count):
        if not alike_on(world_of_rank(world, rank), first, second):
            return rank
    return None
