"""Bags, which tell how often things occur."""

from crossfarers.checks import check, is_series
from crossfarers.errors import Lacking
from crossfarers.shapes import is_whole


class Bag:
    """Things, each with the number of times that it occurs."""

    def __init__(self, things=()):
        check(is_series(things), "things")
        numbers = {}
        for thing in things:
            numbers[thing] = numbers.get(thing, 0) + 1
        self._numbers = {thing: numbers[thing] for thing in sorted(numbers)}

    def __getitem__(self, at):
        return self._numbers.get(at, 0)

    def __contains__(self, x):
        return is_thing(x) and x in self._numbers

    def __iter__(self):
        return iter(self._numbers.items())

    def __add__(self, other):
        numbers = {thing: number for thing, number in self._numbers.items()}
        for thing, number in other:
            numbers[thing] = self[thing] + number
        return counted(numbers)

    def __sub__(self, other):
        numbers = {thing: number for thing, number in self._numbers.items()}
        for thing, wanted in other:
            have = self[thing]
            if wanted > have:
                raise Lacking(thing, have, wanted)
            numbers[thing] = have - wanted
        return counted(numbers)

    def __eq__(self, other):
        return isinstance(other, Bag) and self._numbers == other._numbers

    @property
    def many(self):
        """How many things there are in all."""
        return sum(self._numbers.values())

    @property
    def kinds(self):
        """How many unlike things occur."""
        return len(self._numbers)

    def things(self):
        """Return the list of all things, ascending, each as often as it occurs."""
        found = []
        for thing, number in self._numbers.items():
            found.extend([thing] * number)
        return found

    def within(self, other):
        """Tell whether no thing occurs oftener here than in the other bag."""
        return all([number <= other[thing] for thing, number in self._numbers.items()])

    def first_unlike(self, other):
        """Return the least thing with unlike numbers and these two numbers, or None."""
        things = list(self._numbers) + [thing for thing, _ in other]
        for thing in sorted(set(things)):
            if self[thing] != other[thing]:
                return (thing, self[thing], other[thing])
        return None


def counted(numbers):
    """Return the bag in which each key of a dict occurs as often as the dict tells."""
    bag = Bag()
    bag._numbers = {thing: numbers[thing] for thing in sorted(numbers) if numbers[thing] > 0}
    return bag


def added(pairs):
    """Return the bag of the things of pairs of a thing and a number; the numbers of equal things are added."""
    numbers = {}
    for thing, number in pairs:
        numbers[thing] = numbers.get(thing, 0) + number
    return counted(numbers)


def is_thing(value):
    """Tell whether the value is a text, a whole number or a tuple of things."""
    if isinstance(value, tuple):
        return all([is_thing(part) for part in value])
    return isinstance(value, str) or is_whole(value)
