"""The text of a world, and reading it."""

from crossfarers.checks import are_names, are_unlike, check
from crossfarers.errors import BadText
from crossfarers.shapes import LAST_DAY, MOST_TOWNS, MOST_TRAVELLERS, is_name
from crossfarers.worlds import Web, World

MOST_SIGNS = 2000


def world_text(world):
    """Return the text of the world."""
    lines = [["towns"] + list(world.web)]
    for here, there in world.web.ways:
        lines.append(["way", here, there])
    for name, plan in world:
        lines.append(["plan", name, *plan])
    return "".join([" ".join(words) + "\n" for words in lines])


def read_world(text):
    """Return the world that has the text."""
    check(isinstance(text, str) and len(text) <= MOST_SIGNS, "text")
    pieces = text.split("\n")
    lines = pieces[:-1]
    towns = []
    ways = []
    plans = {}
    for at, line in enumerate(lines):
        words = line.split(" ")
        if at == 0 and are_towns_words(words):
            towns = words[1:]
        elif not plans and are_way_words(words, towns, ways):
            ways.append((words[1], words[2]))
        elif are_plan_words(words, towns, ways, plans):
            plans[words[1]] = tuple(words[2:])
        else:
            raise BadText(at + 1)
    if pieces[-1] != "" or not plans:
        raise BadText(len(lines) + 1)
    return World(Web(towns, ways), plans)


def are_towns_words(words):
    """Tell whether the words make a line of towns."""
    towns = words[1:]
    if words[0] != "towns" or not 1 <= len(towns) <= MOST_TOWNS or not are_names(towns):
        return False
    return towns == sorted(towns) and are_unlike(towns)


def are_way_words(words, towns, ways):
    """Tell whether the words make a line of a way that may stand behind the lines of these ways."""
    if len(words) != 3 or words[0] != "way":
        return False
    here, there = words[1:]
    return here in towns and there in towns and here < there and all([way < (here, there) for way in ways])


def are_plan_words(words, towns, ways, plans):
    """Tell whether the words make a line of a plan that may stand behind the lines of these plans."""
    if not 3 <= len(words) <= LAST_DAY + 3 or words[0] != "plan" or not is_name(words[1]):
        return False
    if len(plans) == MOST_TRAVELLERS or not all([name < words[1] for name in plans]):
        return False
    return is_walk(words[2:], towns, ways)


def is_walk(stops, towns, ways):
    """Tell whether all stops are towns and each step between them stays or takes a way."""
    steps = [(min(step), max(step)) for step in zip(stops, stops[1:])]
    joined = [here == there or (here, there) in ways for here, there in steps]
    return all([stop in towns for stop in stops]) and all(joined)
