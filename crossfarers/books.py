"""Books of what was done in a world, and auditing their rows."""

from crossfarers.checks import check, check_traveller
from crossfarers.claims import is_claim, judged
from crossfarers.deeds import done, refusal
from crossfarers.errors import (
    BadRow, LastTraveller, NoStep, NothingToUndo, NoWay, Repeated, TooMany, UnknownTown, UnknownTraveller, UnlikeFrames,
)
from crossfarers.shapes import MOST_TRAVELLERS, is_day, is_deed, is_name, is_number, is_plan, is_tuple_of
from crossfarers.worlds import World, check_plan

MOST_ROWS = 40


class Book:
    """A world, and rows that tell what was done in it since."""

    def __init__(self, world):
        self._worlds = [world]
        self._rows = []
        self._kinds = []

    def __eq__(self, other):
        return isinstance(other, Book) and self._worlds[0] == other._worlds[0] and self._rows == other._rows

    def __iter__(self):
        return iter(self._kinds)

    @property
    def opening(self):
        """The first world."""
        return self._worlds[0]

    @property
    def world(self):
        """The present world."""
        return self._worlds[-1]

    @property
    def rows(self):
        """A new list of the rows."""
        return copied(self._rows)

    @property
    def many(self):
        """How many rows there are."""
        return len(self._rows)

    def exchange(self, x, y, day):
        """Do a deed."""
        check(is_name(x), "x")
        check(is_name(y), "y")
        check(is_day(day), "day")
        self._enter(("exchange", x, y, day), done(self.world, (x, y, day)))

    def come(self, name, plan):
        """Let a new traveller come with a plan."""
        check(is_name(name), "name")
        check(is_plan(plan), "plan")
        plans = self.world.plans
        if name in plans:
            raise Repeated(name)
        check_plan(self.world.web, plan)
        if len(plans) == MOST_TRAVELLERS:
            raise TooMany("travellers", len(plans) + 1)
        plans[name] = plan
        self._enter(("come", name, plan), World(self.world.web, plans))

    def go(self, name):
        """Let a traveller go."""
        check(is_name(name), "name")
        check_traveller(self.world, name)
        plans = self.world.plans
        if len(plans) == 1:
            raise LastTraveller(name)
        del plans[name]
        self._enter(("go", name), World(self.world.web, plans))

    def claim(self, claim):
        """Judge a claim and enter it, and return whether it is right."""
        right = judged(self.world, claim)
        self._enter(("claim", claim, right), self.world)
        return right

    def run(self, errand):
        """Run an errand, enter its deeds, and return how many these are."""
        history, _ = errand(self.world)
        if self.many + len(history) > MOST_ROWS:
            raise TooMany("rows", self.many + len(history))
        for deed in history:
            self._enter(("exchange", *deed), done(self.world, deed))
        return len(history)

    def undo(self):
        """Take the last row away and return it."""
        if not self._rows:
            raise NothingToUndo()
        self._worlds.pop()
        self._kinds.pop()
        return self._rows.pop()

    def world_at(self, number):
        """Return the world behind this many rows."""
        check(is_number(number), "number")
        if number > self.many:
            raise NoStep(number, self.many)
        return self._worlds[number]

    def twin(self):
        """Return an equal book of its own."""
        book = Book(self.opening)
        for row, world in zip(list(self._rows), self._worlds[1:]):
            book._enter(row, world)
        return book

    def _enter(self, row, world):
        """Put a row behind the others, with the world that it makes, or refuse it in a full book."""
        if self.many == MOST_ROWS:
            raise TooMany("rows", MOST_ROWS + 1)
        self._worlds.append(world)
        self._kinds.append(row[0])
        self._rows.append(copied(row))


def audit(world, rows):
    """Return the index of the first wrong row and its reason, or None if all rows are right."""
    return audited(world, rows)[1]


def replayed(world, rows):
    """Return the book that is opened with the world and has these rows."""
    book, wrong = audited(world, rows)
    if wrong is not None:
        at, reason = wrong
        raise BadRow(at, reason)
    return book


def parting(first, second):
    """Return where two books part: None, "opening", or the least index at which their rows are unlike."""
    if first.opening != second.opening:
        return "opening"
    rows, others = first.rows, second.rows
    for at in range(max(len(rows), len(others))):
        if rows[at:at + 1] != others[at:at + 1]:
            return at
    return None


def audited(world, rows):
    """Return the book of the rows before the first wrong one, and the index and reason of that one, or None."""
    check(isinstance(rows, list), "rows")
    book = Book(world)
    for at, row in enumerate(rows):
        reason = wrong_with(book, row)
        if reason is not None:
            return book, (at, reason)
    return book, None


def wrong_with(book, row):
    """Enter the row into the book and return None, or return what is wrong with it."""
    if book.many == MOST_ROWS:
        return "TooMany"
    if not is_row(row):
        return "BadShape"
    reason = refusal(book.world, row[1:]) if row[0] == "exchange" else None
    if reason is not None:
        return reason
    try:
        right = entered(book, row)
    except UnknownTraveller:
        return "UnknownTraveller"
    except Repeated:
        return "Repeated"
    except UnknownTown:
        return "UnknownTown"
    except NoWay:
        return "NoWay"
    except LastTraveller:
        return "LastTraveller"
    except UnlikeFrames:
        return "UnlikeFrames"
    except TooMany:
        return "TooMany"
    return None if right else "Verdict"


def entered(book, row):
    """Do the deed of the book that enters the row, and tell whether it enters the very row."""
    if row[0] == "exchange":
        book.exchange(row[1], row[2], row[3])
    elif row[0] == "come":
        book.come(row[1], row[2])
    elif row[0] == "go":
        book.go(row[1])
    else:
        return book.claim(row[1]) == row[2]
    return True


def is_row(value):
    """Tell whether the value is a tuple of one of the four forms of rows."""
    if not isinstance(value, tuple) or value == ():
        return False
    if value[0] == "exchange":
        return is_deed(value[1:])
    if value[0] == "come":
        return len(value) == 3 and is_name(value[1]) and is_plan(value[2])
    if value[0] == "go":
        return len(value) == 2 and is_name(value[1])
    return is_tuple_of(value, 3) and value[0] == "claim" and is_claim(value[1]) and isinstance(value[2], bool)


def copied(value):
    """Return the value with new lists and dicts, however deep they lie in it."""
    if isinstance(value, list):
        return [copied(part) for part in value]
    if isinstance(value, tuple):
        return tuple([copied(part) for part in value])
    if isinstance(value, dict):
        return {key: copied(part) for key, part in value.items()}
    return value
