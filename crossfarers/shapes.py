"""The shapes of the values that the package takes and returns."""

END = "-"
LAST_DAY = 6
MOST_TOWNS = 8
MOST_TRAVELLERS = 6
MOST_DEEDS = 60
LONGEST_NAME = 8
LETTERS = "abcdefghijklmnopqrstuvwxyz"
LETTERS_AND_DIGITS = "abcdefghijklmnopqrstuvwxyz0123456789"


def is_name(value):
    """Tell whether the value is a name."""
    if not isinstance(value, str) or not 1 <= len(value) <= LONGEST_NAME:
        return False
    return value[0] in LETTERS and all([sign in LETTERS_AND_DIGITS for sign in value])


def is_place(value):
    """Tell whether the value is a name or END."""
    return is_name(value) or value == END


def is_whole(value):
    """Tell whether the value is a whole number."""
    return isinstance(value, int) and not isinstance(value, bool)


def is_day(value):
    """Tell whether the value is a day."""
    return is_whole(value) and 0 <= value <= LAST_DAY


def is_number(value):
    """Tell whether the value is a whole number from 0 on."""
    return is_whole(value) and value >= 0


def is_plan(value):
    """Tell whether the value is a tuple of one name for each day of a plan."""
    if not isinstance(value, tuple) or not 1 <= len(value) <= LAST_DAY + 1:
        return False
    return all([is_name(town) for town in value])


def is_crossing(value):
    """Tell whether the value is a tuple of a day and a town."""
    return is_tuple_of(value, 2) and is_day(value[0]) and is_name(value[1])


def is_leg(value):
    """Tell whether the value is a leg, with END or without."""
    if not is_tuple_of(value, 3) or not is_crossing(value[:2]) or not is_place(value[2]):
        return False
    return value[2] == END or value[0] < LAST_DAY


def is_deed(value):
    """Tell whether the value is a tuple of two names and a day."""
    return is_tuple_of(value, 3) and is_name(value[0]) and is_name(value[1]) and is_day(value[2])


def is_history(value):
    """Tell whether the value is a list of at most MOST_DEEDS deeds."""
    return isinstance(value, list) and len(value) <= MOST_DEEDS and all([is_deed(deed) for deed in value])


def is_sighting(value):
    """Tell whether the value is a tuple of a name, a day and a place."""
    return is_tuple_of(value, 3) and is_name(value[0]) and is_day(value[1]) and is_place(value[2])


def is_tuple_of(value, parts):
    """Tell whether the value is a tuple with this number of parts."""
    return isinstance(value, tuple) and len(value) == parts
