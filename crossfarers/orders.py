"""Ranks of arrangements, tables that exchange names, and mixed numbers."""

from math import factorial

from crossfarers.bags import Bag
from crossfarers.checks import are_name_pairs, are_unlike, check
from crossfarers.errors import NoRank
from crossfarers.shapes import is_number

MOST_PAIRS = 12
MOST_BASES = 60
GREATEST_BASE = 1000


def arrangements(bag):
    """Return the number of arrangements of the things of the bag."""
    count = factorial(bag.many)
    for _, number in bag:
        count = count // factorial(number)
    return count


def arrangement_rank(row):
    """Return the rank of the row among the arrangements of its things."""
    check(isinstance(row, list), "row")
    rank = 0
    left = Bag(row)
    for thing in row:
        for lesser, _ in left:
            if lesser < thing:
                rank = rank + arrangements(left - Bag([lesser]))
        left = left - Bag([thing])
    return rank


def arrangement_of(bag, number):
    """Return the arrangement of the things of the bag that has the number as its rank."""
    check(is_number(number), "number")
    if number >= arrangements(bag):
        raise NoRank(number, arrangements(bag))
    row = []
    left = bag
    rank = number
    while left.many > 0:
        for thing, _ in left:
            behind = left - Bag([thing])
            if rank < arrangements(behind):
                break
            rank = rank - arrangements(behind)
        row.append(thing)
        left = behind
    return row


def circuits(table):
    """Return the circuits of the table, ascending, each from its least name on."""
    check(is_table(table), "table")
    images = {name: image for name, image in table}
    found = []
    for name in sorted(images):
        if all([name not in row for row in found]):
            found.append(circuit_from(name, images))
    return found


def circuit_from(name, images):
    """Return the circuit that begins with the name."""
    row = [name]
    while images[row[-1]] != name:
        row.append(images[row[-1]])
    return tuple(row)


def cost(table):
    """Return the least number of exchanges that lead from the identity to the table."""
    return sum([len(row) - 1 for row in circuits(table)])


def exchanges(table):
    """Return the pairs of names whose images are exchanged on the way from the identity to the table."""
    check(is_table(table), "table")
    images = {name: image for name, image in table}
    present = {name: name for name in images}
    noted = []
    for name in sorted(images):
        image = images[name]
        if present[name] != image:
            other = [holder for holder in present if present[holder] == image][0]
            present[other] = present[name]
            present[name] = image
            noted.append((name, other))
    return noted


def is_table(value):
    """Tell whether the value sends a set of names one to one to itself."""
    if not are_name_pairs(value) or len(value) > MOST_PAIRS:
        return False
    names = [name for name, _ in value]
    return are_unlike(names) and sorted(names) == sorted([image for _, image in value])


def mixed_number(bases, digits):
    """Return the value of the digits, the first of which weighs most."""
    check(are_bases(bases), "bases")
    check(are_digits(digits, bases), "digits")
    value = 0
    for base, digit in zip(bases, digits):
        value = value * base + digit
    return value


def mixed_digits(bases, number):
    """Return the digits that have the number as their value."""
    check(are_bases(bases), "bases")
    check(is_number(number), "number")
    digits = []
    left = number
    limit = 1
    for base in bases[::-1]:
        digits.append(left % base)
        left = left // base
        limit = limit * base
    if number >= limit:
        raise NoRank(number, limit)
    return digits[::-1]


def are_bases(value):
    """Tell whether the value has the shape of the bases of a mixed number."""
    if not isinstance(value, list) or len(value) > MOST_BASES:
        return False
    return all([is_number(base) and 1 <= base <= GREATEST_BASE for base in value])


def are_digits(value, bases):
    """Tell whether the value is a list with a digit for each base."""
    if not isinstance(value, list) or len(value) != len(bases):
        return False
    return all([is_number(digit) and digit < base for base, digit in zip(bases, value)])
