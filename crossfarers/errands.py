"""Errands: small programs that do deeds, how they are read and how they run."""

from crossfarers.checks import check
from crossfarers.deeds import done, refusal
from crossfarers.errors import BadErrand, ErrandStopped
from crossfarers.flows import bring_history
from crossfarers.ledgers import standing
from crossfarers.shapes import END, MOST_DEEDS, is_name

MOST_SIGNS = 6000
MOST_LINES = 40
MOST_OPEN = 4
MOST_TESTS = 3
MOST_STEPS = 300
DIGITS = "0123456"
# The kinds of the words that stand behind the first word of a statement and of a test.
STATEMENTS = {"exchange": ("who", "who", "day"), "bring": ("who", "day", "town"), "each": ("variable", "day", "town")}
TESTS = {"at": ("who", "day", "town"), "with": ("who", "who", "day"), "over": ("who", "day")}
TESTED = ("if", "while", "until")
BLOCKS = ("if", "while", "until", "each")


class Errand:
    """A small program that does deeds in a world."""

    def __init__(self, text):
        check(isinstance(text, str) and len(text) <= MOST_SIGNS, "text")
        self._rows = read_rows(text)

    def __eq__(self, other):
        return isinstance(other, Errand) and self._rows == other._rows

    def __call__(self, world):
        course = Course(world, self._rows)
        course.run(0, len(self._rows))
        return (course.history, course.present)

    @property
    def text(self):
        """The canonical text."""
        return "".join(["  " * depth + " ".join(words) + "\n" for depth, words in self._rows])

    @property
    def lines(self):
        """The number of lines of the canonical text."""
        return len(self._rows)


class Course:
    """An errand as it runs; its program is the list of the pairs of a depth and the words of each canonical line."""

    def __init__(self, world, program):
        self.present = world
        self.program = program
        self.history = []
        self.steps = 0
        self.variables = {}

    def run(self, at, end):
        """Run the statements with indexes from one number on and below another one."""
        now = at
        while now < end:
            close = now
            if self.program[now][1][0] in BLOCKS:
                close = self.program.index((self.program[now][0], ("end",)), now)
                self.run_block(now, close)
            else:
                self.act(now)
            now = close + 1

    def run_block(self, at, close):
        """Run the block whose first and last lines have these indexes."""
        word = self.program[at][1][0]
        if word == "if":
            self.choose(at, close)
        elif word == "each":
            self.run_for_each(at, close)
        else:
            # An `until` runs once before its tests are looked at for the first time.
            if word == "until":
                self.run(at + 1, close)
            while self.all_hold(at) == (word == "while"):
                self.run(at + 1, close)

    def choose(self, at, close):
        """Run the one part of an `if` or the other."""
        other = (self.program[at][0], ("else",))
        turn = self.program.index(other, at, close) if other in self.program[at:close] else close
        if self.all_hold(at):
            self.run(at + 1, turn)
        else:
            self.run(turn + 1, close)

    def run_for_each(self, at, close):
        """Run a block once for each traveller who stands at its crossing when it begins."""
        self.take_step(at)
        words = self.program[at][1]
        _, day, towns = self.known(at, words[1:], STATEMENTS["each"])
        for name in standing(self.present, (day, towns[0])):
            self.variables[words[1]] = name
            self.run(at + 1, close)

    def act(self, at):
        """Run a statement that is no block."""
        self.take_step(at)
        words = self.program[at][1]
        names, day, towns = self.known(at, words[1:], STATEMENTS[words[0]])
        if words[0] == "exchange":
            deeds = [(names[0], names[1], day)]
            reason = refusal(self.present, deeds[0])
        else:
            deeds = bring_history(self.present, names[0], (day, towns[0]))
            reason = "NoWayThere" if deeds is None else None
        if reason is not None:
            self.stop(at, reason)
        if len(self.history) + len(deeds) > MOST_DEEDS:
            self.stop(at, "TooLong")
        for deed in deeds:
            self.history.append(deed)
            self.present = done(self.present, deed)

    def all_hold(self, at):
        """Look at the tests of a line until one does not hold, and tell whether all hold."""
        self.take_step(at)
        for test in tests_of(self.program[at][1][1:]):
            if not self.holds(at, test):
                return False
        return True

    def holds(self, at, test):
        """Tell whether a test holds."""
        told = without_not(test)
        names, day, towns = self.known(at, told[1:], TESTS[told[0]])
        places = [self.present.place(name, day) for name in names]
        if told[0] == "at":
            truth = places == towns
        elif told[0] == "with":
            truth = places[0] == places[1] and END not in places
        else:
            truth = places == [END]
        return truth if told == test else not truth

    def known(self, at, words, kinds):
        """Return the travellers, the day and the towns that the words name, or stop at an unknown name."""
        pairs = list(zip(words, kinds))
        names = [self.variables.get(word, word) for word, kind in pairs if kind == "who"]
        towns = [word for word, kind in pairs if kind == "town"]
        for name in names:
            if name not in self.present:
                self.stop(at, "UnknownTraveller")
        for town in towns:
            if town not in self.present.web:
                self.stop(at, "UnknownTown")
        return names, [int(word) for word, kind in pairs if kind == "day"][0], towns

    def take_step(self, at):
        """Count a step, or stop if there were too many."""
        if self.steps == MOST_STEPS:
            self.stop(at, "TooLong")
        self.steps = self.steps + 1

    def stop(self, at, reason):
        """Raise ErrandStopped at the line of an index."""
        raise ErrandStopped(at + 1, reason, self.history)


def read_rows(text):
    """Return the pairs of a depth and the words of each line of the canonical text, or refuse the first wrong line."""
    pieces = text.split("\n")
    lines = pieces if pieces[-1] != "" else pieces[:-1]
    rows = []
    blocks = []
    many = 0
    for at, line in enumerate(lines):
        words = tuple([word for word in line.split(" ") if word != ""])
        if not words:
            continue
        if many == MOST_LINES or not is_right(words, blocks):
            raise BadErrand(at + 1)
        many = many + 1
        enter(rows, blocks, words)
    if blocks:
        raise BadErrand(len(lines) + 1)
    return rows


def enter(rows, blocks, words):
    """Put a right line behind the rows, and keep the words by which each open block opened or went on."""
    if words in (("else",), ("end",)):
        blocks.pop()
    # Nothing stands behind such an `else`.
    if words == ("end",) and rows[-1][1] == ("else",):
        rows.pop()
    rows.append((len(blocks), words))
    if words[0] in BLOCKS or words == ("else",):
        blocks.append(words)


def is_right(words, blocks):
    """Tell whether the words are a right line within the open blocks."""
    if words == ("else",):
        return blocks != [] and blocks[-1][0] == "if"
    if words == ("end",):
        return blocks != []
    if words[0] in BLOCKS and len(blocks) == MOST_OPEN:
        return False
    variables = [block[1] for block in blocks if block[0] == "each"]
    if words[0] in TESTED:
        return are_tests(words[1:], variables, MOST_TESTS)
    return words[0] in STATEMENTS and are_of_kinds(words[1:], STATEMENTS[words[0]], variables)


def are_tests(words, variables, most):
    """Tell whether the words are one or more tests, but not too many, with `and` between two neighbours."""
    many = test_size(words)
    if most == 0 or not is_test(words[:many], variables):
        return False
    return len(words) == many or words[many] == "and" and are_tests(words[many + 1:], variables, most - 1)


def is_test(words, variables):
    """Tell whether the words are one test."""
    told = without_not(words)
    return told[:1] != () and told[0] in TESTS and are_of_kinds(told[1:], TESTS[told[0]], variables)


def tests_of(words):
    """Return the tests of which the words consist."""
    if words == ():
        return []
    many = test_size(words)
    return [words[:many]] + tests_of(words[many + 1:])


def test_size(words):
    """Return the number of words of the test that the words begin with."""
    told = without_not(words)
    many = len(TESTS.get(told[0], ())) if told else 0
    return len(words) - len(told) + 1 + many


def without_not(words):
    """Return the words without a `not` before them."""
    return words[1:] if words[:1] == ("not",) else words


def are_of_kinds(words, kinds, variables):
    """Tell whether there is one word of each kind, in order."""
    return len(words) == len(kinds) and all([is_of_kind(word, kind, variables) for word, kind in zip(words, kinds)])


def is_of_kind(word, kind, variables):
    """Tell whether the word names a traveller, a day, a town, or a variable that is not there so far."""
    if kind == "who":
        return is_name(word) or word in variables
    if kind == "day":
        return len(word) == 1 and word in DIGITS
    if kind == "town":
        return is_name(word)
    return word[0] == "$" and is_name(word[1:]) and word not in variables
