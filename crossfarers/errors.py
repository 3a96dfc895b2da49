"""The errors of the package."""


class CrossError(ValueError):
    """The base class of all errors of the package."""


class BadShape(CrossError):
    """An argument has a wrong shape."""

    def __init__(self, parameter):
        self.parameter = parameter


class BadText(CrossError):
    """A text is the text of no world."""

    def __init__(self, line):
        self.line = line


class BadErrand(CrossError):
    """A text is no errand."""

    def __init__(self, line):
        self.line = line


class Lacking(CrossError):
    """A bag has a thing less often than is to be taken away."""

    def __init__(self, thing, have, wanted):
        self.thing = thing
        self.have = have
        self.wanted = wanted


class NoRank(CrossError):
    """A number is not below the number of things that are ranked."""

    def __init__(self, number, limit):
        self.number = number
        self.limit = limit


class Repeated(CrossError):
    """A thing stands more than once where it may stand once."""

    def __init__(self, thing):
        self.thing = thing


class UnknownTown(CrossError):
    """A web does not have a town."""

    def __init__(self, town):
        self.town = town


class UnknownTraveller(CrossError):
    """A world does not have a traveller."""

    def __init__(self, name):
        self.name = name


class SameTown(CrossError):
    """A town stands where two unlike towns are needed."""

    def __init__(self, town):
        self.town = town


class NoWay(CrossError):
    """No way joins two towns between which a step goes."""

    def __init__(self, day, here, there):
        self.day = day
        self.here = here
        self.there = there


class SameTraveller(CrossError):
    """A deed names one traveller twice."""

    def __init__(self, name):
        self.name = name


class PlanOver(CrossError):
    """The plan of a traveller is over on a day."""

    def __init__(self, name, day):
        self.name = name
        self.day = day


class UnlikeTowns(CrossError):
    """Two travellers stand in unlike towns."""

    def __init__(self, first, second):
        self.first = first
        self.second = second


class PlanTooLong(CrossError):
    """A plan would have too many towns."""

    def __init__(self, name):
        self.name = name


class PlanGap(CrossError):
    """A plan would have a day without a town before a day with one."""

    def __init__(self, name, day):
        self.name = name
        self.day = day


class Unbalanced(CrossError):
    """Unlike numbers arrive at a crossing and leave it."""

    def __init__(self, crossing, arriving, leaving):
        self.crossing = crossing
        self.arriving = arriving
        self.leaving = leaving


class StepRefused(CrossError):
    """A deed of a history does not fit."""

    def __init__(self, at, reason):
        self.at = at
        self.reason = reason


class NoStep(CrossError):
    """A history or a book has no such step."""

    def __init__(self, at, limit):
        self.at = at
        self.limit = limit


class SameCrossing(CrossError):
    """Two deeds are done at one crossing."""

    def __init__(self, crossing):
        self.crossing = crossing


class NoShuffle(CrossError):
    """An order does not name a crossing as often as its part asks."""

    def __init__(self, crossing):
        self.crossing = crossing


class NotJoining(CrossError):
    """A joining does not fit a crossing."""

    def __init__(self, crossing):
        self.crossing = crossing


class UnlikeFrames(CrossError):
    """Two worlds are not of one frame."""

    def __init__(self, part):
        self.part = part


class UnlikeClasses(CrossError):
    """Two worlds are not of one class."""

    def __init__(self, paper):
        self.paper = paper


class NotMap(CrossError):
    """Something is no map of a day."""

    def __init__(self, day):
        self.day = day


class NoLength(CrossError):
    """No history has this number of deeds."""

    def __init__(self, number):
        self.number = number


class Unfit(CrossError):
    """A front and a rest book do not fit in a town."""

    def __init__(self, town, standing, rests):
        self.town = town
        self.standing = standing
        self.rests = rests


class TooMany(CrossError):
    """There are more things than are allowed."""

    def __init__(self, what, number):
        self.what = what
        self.number = number


class ErrandStopped(CrossError):
    """An errand cannot go on."""

    def __init__(self, line, reason, history):
        self.line = line
        self.reason = reason
        self.history = history


class LastTraveller(CrossError):
    """The last traveller cannot go."""

    def __init__(self, name):
        self.name = name


class NothingToUndo(CrossError):
    """A book has no row to take away."""


class BadRow(CrossError):
    """A row of a book is wrong."""

    def __init__(self, at, reason):
        self.at = at
        self.reason = reason
