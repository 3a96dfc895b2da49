"""Books, their rows and their audit: points 97 to 99, and the interface of crossfarers/books.py."""

import time
import unittest

from crossfarers.books import Book, audit, parting, replayed
from crossfarers.deeds import done
from crossfarers.errands import Errand
from crossfarers.errors import (
    BadRow, ErrandStopped, LastTraveller, NoStep, NothingToUndo, NoWay, PlanOver, Repeated, SameTraveller, TooMany,
    UnknownTown, UnknownTraveller, UnlikeFrames, UnlikeTowns,
)
from crossfarers.fewest import bound_table
from crossfarers.verdicts import verdict
from crossfarers.worlds import Web, World
from tests.helpers import Case
from tests.samples import NO_DAYS, NO_NAMES, NO_NUMBERS, example, full_world, meeting_world, pacing_world, same_plans
from tests.test_claims import NO_CLAIMS, right_claims

NO_PLANS = (None, True, 0, "m", [], (), {}, ["m"], ("A",), ("-",), ("m", "-"), ("m", 1), ("m",) * 8, (("m",),), "mp")
NO_ROWS = (
    None, True, 0, "", "go", [], (), {}, (None,), (0,), ("",), (["go"], "ann"), ("Go", "ann"), ["go", "ann"],
    ("exchange",), ("exchange", "ann", "bob"), ("exchange", "ann", "bob", 0, 0), ("exchange", "ann", "bob", 7),
    ("exchange", "ann", "bob", True), ("exchange", "ann", "bob", False), ("exchange", "A", "bob", 0),
    ("exchange", "ann", "-", 0), ("exchange", ("ann", "bob", 0)), ["exchange", "ann", "bob", 0], ("come",),
    ("come", "fay"), ("come", "fay", ["m"]), ("come", "fay", ()), ("come", "fay", ("m",), 0), ("come", "A", ("m",)),
    ("come", None, ("m",)), ("come", "fay", ("m",) * 8), ("come", "fay", ("-",)), ("go",), ("go", "A"), ("go", None),
    ("go", "ann", 0), ("go", ["ann"]), ("claim",), ("claim", ("grant", {}, None)), ("claim", ("grant", {}, None), 0),
    ("claim", ("grant", {}, None), 1), ("claim", ("grant", {}, None), None), ("claim", ("grant", {}, None), False, 0),
    ("say", ("grant", {}, None), False), ("", ("grant", {}, None), False),
    (meeting_world(), ("grant", {}, None), False),
    ("claim", None, False), ("claim", ("grant", {}), False), ("claim", ["grant", {}, None], False), ("undo",),
    ("claim", ("class", None, None), False), ("run", "bring ann 0 m"), meeting_world(), Errand(""),
)


def some_book():
    """Return a book with rows of all kinds, and whose present world is no longer its first one."""
    book = Book(meeting_world())
    book.exchange("ann", "bob", 0)
    book.claim(("class", book.opening, verdict(book.world, book.opening)))
    book.come("fay", ("m", "m", "p"))
    book.exchange("fay", "ann", 1)
    book.go("eve")
    book.claim(("grant", {"ann": ("m", "m", "p")}, None))
    book.claim(("fewest", book.world, 0, [], bound_table(book.world, book.world)))
    return book


def full_book():
    """Return a book with forty rows."""
    book = Book(meeting_world())
    for _ in range(40):
        book.exchange("ann", "bob", 0)
    return book


def worlds_of(book):
    """Return the rows of plans behind each number of rows of the book."""
    return [book.world_at(number).rows for number in range(book.many + 1)]


def picture(book):
    """Return all that a book tells of itself."""
    return (book.opening.rows, book.world.rows, shown(book.rows), book.many, list(book), worlds_of(book))


def shown(value):
    """Return a text that tells a value, the worlds in it too."""
    if isinstance(value, World):
        return repr(value.rows)
    if isinstance(value, (list, tuple)):
        return f"{value.__class__.__name__}({', '.join(map(shown, value))})"
    if isinstance(value, dict):
        return repr([(key, shown(part)) for key, part in value.items()])
    return repr(value)


class BookTest(Case):
    def kept(self, book, error, attributes, call, *arguments):
        """Check that a deed of the book raises this error, and leaves the book as it was."""
        before = picture(book)
        self.refused(error, attributes, call, *arguments)
        self.same(picture(book), before)

    def misshaped(self, book, parameter, call, *arguments):
        """Check that a deed of the book calls the parameter misshapen, and leaves the book as it was."""
        before = picture(book)
        self.misshapen(parameter, call, *arguments)
        self.same(picture(book), before)

    def test_a_new_book(self):
        world = meeting_world()
        book = Book(world=world)
        self.same([book.opening.rows, book.world.rows, book.rows, book.many, list(book)],
                  [world.rows, world.rows, [], 0, []])
        self.assertIs(book.world_at(0) == world, True)

    def test_rows_of_all_kinds(self):
        book = some_book()
        self.same(list(book), ["exchange", "claim", "come", "exchange", "go", "claim", "claim"])
        rows = book.rows
        self.same(book.many, 7)
        self.same([rows[0], rows[2], rows[3], rows[4]], [
            ("exchange", "ann", "bob", 0), ("come", "fay", ("m", "m", "p")), ("exchange", "fay", "ann", 1),
            ("go", "eve")])
        self.same([row[2] for row in rows if row[0] == "claim"], [True, False, True])
        self.same(rows[5], ("claim", ("grant", {"ann": ("m", "m", "p")}, None), False))
        self.assertIs(book.opening == meeting_world(), True)
        self.same(book.world.names, ("ann", "bob", "cat", "dan", "fay"))
        self.same(book.world["ann"], ("m", "m", "p"))

    def test_exchange(self):
        book = Book(meeting_world())
        self.assertIs(book.exchange(x="bob", y="ann", day=0), None)
        self.assertIs(book.world == done(meeting_world(), ("ann", "bob", 0)), True)
        self.same(book.rows, [("exchange", "bob", "ann", 0)])
        for name in NO_NAMES:
            self.misshaped(book, "x", book.exchange, name, None, None)
            self.misshaped(book, "y", book.exchange, "zoe", name, None)
        for day in NO_DAYS:
            self.misshaped(book, "day", book.exchange, "zoe", "zoe", day)
        self.kept(book, UnknownTraveller, {"name": "zoe"}, book.exchange, "zoe", "yan", 6)
        self.kept(book, UnknownTraveller, {"name": "yan"}, book.exchange, "ann", "yan", 6)
        self.kept(book, SameTraveller, {"name": "ann"}, book.exchange, "ann", "ann", 6)
        self.kept(book, PlanOver, {"name": "ann", "day": 6}, book.exchange, "ann", "bob", 6)
        self.kept(book, UnlikeTowns, {"first": "m", "second": "q"}, book.exchange, "ann", "dan", 0)

    def test_come(self):
        web = Web(["m", "p", "q"], [("m", "p")])
        book = Book(World(web, {"cat": ("m",)}))
        self.assertIs(book.come(name="ann", plan=("m", "p")), None)
        self.same(book.world.plans, {"ann": ("m", "p"), "cat": ("m",)})
        for name in NO_NAMES:
            self.misshaped(book, "name", book.come, name, None)
        for plan in NO_PLANS:
            self.misshaped(book, "plan", book.come, "ann", plan)
        self.kept(book, Repeated, {"thing": "ann"}, book.come, "ann", ("x", "q"))
        self.kept(book, UnknownTown, {"town": "x"}, book.come, "bob", ("m", "q", "x", "y"))
        self.kept(book, NoWay, {"day": 1, "here": "m", "there": "q"}, book.come, "bob", ("m", "m", "q", "p"))
        for name in ("u", "v", "w", "x"):
            book.come(name, ("q",))
        self.same(len(book.world.names), 6)
        self.kept(book, TooMany, {"what": "travellers", "number": 7}, book.come, "bob", ("m",))
        self.kept(book, Repeated, {"thing": "u"}, book.come, "u", ("x",))
        self.kept(book, UnknownTown, {"town": "x"}, book.come, "bob", ("x",))
        self.kept(book, NoWay, {"day": 0, "here": "p", "there": "q"}, book.come, "bob", ("p", "q"))

    def test_go(self):
        book = Book(meeting_world())
        self.kept(book, UnknownTraveller, {"name": "zoe"}, book.go, "zoe")
        for name in NO_NAMES:
            self.misshaped(book, "name", book.go, name)
        for name in ("ann", "bob", "cat", "dan"):
            self.assertIs(book.go(name=name), None)
        self.kept(book, UnknownTraveller, {"name": "ann"}, book.go, "ann")
        self.kept(book, LastTraveller, {"name": "eve"}, book.go, "eve")
        book.come("ann", ("m",))
        book.go("eve")
        self.same(book.world.plans, {"ann": ("m",)})
        self.kept(book, LastTraveller, {"name": "ann"}, book.go, "ann")

    def test_claim(self):
        world = example()[0]
        book = Book(world)
        for claim in right_claims():
            self.assertIs(book.claim(claim=claim), True)
        self.same([shown(row) for row in book.rows], [shown(("claim", claim, True)) for claim in right_claims()])
        self.assertIs(book.claim(("class", world, None)), False)
        self.same(book.rows[-1][2], False)
        self.assertIs(book.world == world, True)
        for claim in NO_CLAIMS:
            self.misshaped(book, "claim", book.claim, claim)
        fewer = World(world.web, {"ann": ("m",)})
        self.kept(book, UnlikeFrames, {"part": "travellers"}, book.claim, ("class", fewer, None))
        same = same_plans((("m",), 5))
        book = Book(same)
        self.kept(book, TooMany, {"what": "maps", "number": 120}, book.claim, ("fewest", same, None, [], []))

    def test_claims_are_about_the_present_world(self):
        world, target = example()
        book = Book(world)
        book.exchange("ann", "cat", 0)
        self.assertIs(book.claim(("class", world, ("history", [("ann", "cat", 0)]))), True)
        self.assertIs(book.claim(("class", world, ("history", []))), False)
        book.go("dan")
        self.kept(book, UnlikeFrames, {"part": "travellers"}, book.claim, ("class", target, None))

    def test_run(self):
        book = Book(meeting_world())
        self.same(book.run(errand=Errand("exchange ann bob 0\nbring eve 3 q")), 3)
        self.same(book.rows, [
            ("exchange", "ann", "bob", 0), ("exchange", "eve", "dan", 0), ("exchange", "eve", "bob", 2)])
        self.assertIs(book.world == Errand("exchange ann bob 0\nbring eve 3 q")(meeting_world())[1], True)
        self.same(book.run(Errand("")), 0)
        self.same(book.run(Errand("if at ann 0 p\nexchange ann bob 0\nend")), 0)
        self.kept(book, ErrandStopped, {"line": 2, "reason": "NoWayThere", "history": [("ann", "bob", 0)]}, book.run,
                  Errand("exchange ann bob 0\nbring ann 6 m"))
        self.same(book.undo(), ("exchange", "eve", "bob", 2))
        self.same(book.many, 2)

    def test_a_run_beyond_forty_rows(self):
        book = Book(meeting_world())
        row = "exchange ann bob 0\n"
        self.same(book.run(Errand(row * 38)), 38)
        self.kept(book, TooMany, {"what": "rows", "number": 41}, book.run, Errand(row * 3))
        self.kept(book, TooMany, {"what": "rows", "number": 78}, book.run, Errand(row * 40))
        self.kept(book, ErrandStopped, {"line": 4, "reason": "UnknownTraveller", "history": [("ann", "bob", 0)] * 3},
                  book.run, Errand(row * 3 + "bring zoe 0 m"))
        self.same(book.run(Errand(row * 2)), 2)
        self.same(book.many, 40)
        self.kept(book, TooMany, {"what": "rows", "number": 41}, book.run, Errand(row))
        before = picture(book)
        self.same([book.run(Errand("")), book.run(Errand("bring ann 0 m"))], [0, 0])
        self.same(picture(book), before)

    def test_forty_rows(self):
        book = full_book()
        self.same(book.many, 40)
        for call, arguments in ((book.exchange, ("ann", "bob", 0)), (book.come, ("fay", ("m",))), (book.go, ("ann",)),
                                (book.claim, (("class", book.world, None),))):
            self.kept(book, TooMany, {"what": "rows", "number": 41}, call, *arguments)
        self.kept(book, PlanOver, {"name": "ann", "day": 6}, book.exchange, "ann", "bob", 6)
        self.kept(book, NoWay, {"day": 0, "here": "m", "there": "r"}, book.come, "fay", ("m", "r"))
        self.kept(book, UnknownTraveller, {"name": "zoe"}, book.go, "zoe")
        self.kept(book, UnlikeFrames, {"part": "web"}, book.claim, ("class", example()[0], None))
        book.undo()
        book.go("ann")
        self.same(book.many, 40)
        book = Book(World(Web(["m"]), {"ann": ("m",)}))
        for _ in range(40):
            book.claim(("grant", {}, None))
        self.kept(book, LastTraveller, {"name": "ann"}, book.go, "ann")
        book = Book(same_plans((("m",), 6)))
        for _ in range(40):
            book.claim(("grant", {}, None))
        self.kept(book, TooMany, {"what": "travellers", "number": 7}, book.come, "zoe", ("m",))
        self.kept(book, TooMany, {"what": "maps", "number": 720}, book.claim, ("fewest", book.world, 0, [], []))

    def test_undo_each_kind_of_row(self):
        book = some_book()
        rows, worlds = book.rows, worlds_of(book)
        while book.many:
            row = book.undo()
            self.same(shown(row), shown(rows[book.many]))
            self.same(worlds_of(book), worlds[:book.many + 1])
            self.same(book.world.rows, worlds[book.many])
            self.same(list(book), [row[0] for row in rows[:book.many]])
        self.kept(book, NothingToUndo, {}, book.undo)
        self.assertIs(book == Book(meeting_world()), True)
        book.go("ann")
        self.same(book.rows, [("go", "ann")])

    def test_world_at(self):
        book = some_book()
        self.same(worlds_of(book)[-1], book.world.rows)
        self.assertIs(book.world_at(number=1) == done(meeting_world(), ("ann", "bob", 0)), True)
        self.assertIs(book.world_at(2) == book.world_at(1), True)
        self.same(book.world_at(3).plans["fay"], ("m", "m", "p"))
        for number in NO_NUMBERS:
            self.misshapen("number", book.world_at, number)
        for number in (8, 9, 10 ** 29):
            self.refused(NoStep, {"at": number, "limit": 7}, book.world_at, number)
        self.refused(NoStep, {"at": 1, "limit": 0}, Book(meeting_world()).world_at, 1)

    def test_twins(self):
        book = some_book()
        twin = book.twin()
        self.same(picture(twin), picture(book))
        self.assertIs(twin == book, True)
        before = picture(book)
        twin.undo()
        twin.go("ann")
        twin.claim(("grant", {}, None))
        self.assertIs(twin == book, False)
        self.same(picture(book), before)
        other = book.twin()
        book.undo()
        book.undo()
        self.same(picture(other), before)
        self.same(full_book().twin().many, 40)

    def test_equality(self):
        book = some_book()
        self.assertIs(book == some_book(), True)
        shorter = some_book()
        shorter.undo()
        self.assertIs(book == shorter, False)
        self.assertIs(book != shorter, True)
        first, second = Book(meeting_world()), Book(done(meeting_world(), ("ann", "bob", 0)))
        self.assertIs(first == second, False)
        first.exchange("ann", "bob", 0)
        self.assertIs(first == Book(second.opening), False)
        turned = Book(meeting_world())
        turned.exchange("bob", "ann", 0)
        self.same(first.world.rows, turned.world.rows)
        self.assertIs(first == turned, False)
        for other in (None, 0, "book", [], book.rows, book.opening):
            self.assertIs(book == other, False)

    def test_iteration(self):
        book = some_book()
        self.same([kind for kind in book], [row[0] for row in book.rows])
        self.same(["go" in book, "undo" in book], [True, False])


class AuditTest(Case):
    def test_rows_of_books_pass(self):
        for book in (some_book(), full_book(), Book(meeting_world())):
            self.assertIs(audit(world=book.opening, rows=book.rows), None)
            self.assertIs(replayed(world=book.opening, rows=book.rows) == book, True)
            self.same(picture(replayed(book.opening, book.rows)), picture(book))

    def wrong(self, at, reason, rows, world=None):
        """Check that the audit and the replay name this row and reason."""
        first = world or meeting_world()
        self.same(audit(first, rows), (at, reason))
        self.refused(BadRow, {"at": at, "reason": reason}, replayed, first, rows)

    def test_wrong_shapes(self):
        rows = some_book().rows
        for row in NO_ROWS:
            self.wrong(0, "BadShape", [row])
            self.wrong(3, "BadShape", rows[:3] + [row] + rows[3:])
            self.wrong(1, "BadShape", [("go", "eve"), row, ("go", "eve")])
        for value in (None, True, 0, "", (), {}, (("go", "ann"),), "go", meeting_world(), some_book()):
            self.misshapen("rows", audit, meeting_world(), value)
            self.misshapen("rows", replayed, meeting_world(), value)
        self.assertIs(audit(meeting_world(), []), None)
        self.assertIs(replayed(meeting_world(), []) == Book(meeting_world()), True)

    def test_each_error_of_the_deeds(self):
        world = meeting_world()
        lone = World(world.web, {"ann": ("m",)})
        six = World(world.web, {name: ("m",) for name in "uvwxyz"})
        for row, reason, first in (
                (("exchange", "zoe", "ann", 6), "UnknownTraveller", world),
                (("exchange", "ann", "ann", 6), "SameTraveller", world),
                (("exchange", "ann", "eve", 1), "PlanOver", world),
                (("exchange", "ann", "eve", 0), "UnlikeTowns", world),
                (("come", "ann", ("x",)), "Repeated", world), (("come", "fay", ("m", "x", "r")), "UnknownTown", world),
                (("come", "fay", ("m", "r")), "NoWay", world), (("come", "fay", ("m",)), "TooMany", six),
                (("come", "fay", ("x",)), "UnknownTown", six), (("go", "zoe"), "UnknownTraveller", world),
                (("go", "zoe"), "UnknownTraveller", lone), (("go", "ann"), "LastTraveller", lone),
                (("claim", ("class", lone, None), False), "UnlikeFrames", world),
                (("claim", ("within", example()[0], None, None), True), "UnlikeFrames", world),
                (("claim", ("fewest", six, None, None, None), False), "TooMany", six)):
            self.wrong(0, reason, [row], first)
            self.wrong(1, reason, [("claim", ("grant", {}, None), False), row, None], first)

    def test_verdicts(self):
        world, target = example()
        right = ("class", target, verdict(world, target))
        self.assertIs(audit(world, [("claim", right, True)]), None)
        self.wrong(0, "Verdict", [("claim", right, False)], world)
        self.assertIs(audit(world, [("claim", ("class", target, None), False)]), None)
        self.wrong(0, "Verdict", [("claim", ("class", target, None), True)], world)
        self.wrong(1, "Verdict", [("exchange", "ann", "bob", 0), ("claim", right, True)], world)
        self.wrong(0, "BadShape", [("claim", right, 1)], world)

    def test_each_row_in_the_world_before_it(self):
        rows = [("exchange", "ann", "bob", 0), ("exchange", "ann", "cat", 1)]
        self.wrong(1, "UnlikeTowns", rows)
        self.assertIs(audit(meeting_world(), rows[1:]), None)
        self.wrong(2, "UnknownTraveller", [("go", "ann"), ("go", "bob"), ("go", "ann")])
        self.assertIs(audit(meeting_world(), [("go", "ann"), ("come", "ann", ("r",)), ("go", "ann")]), None)

    def test_too_many_rows(self):
        rows = [("exchange", "ann", "bob", 0)] * 40
        self.assertIs(audit(meeting_world(), rows), None)
        for row in (("exchange", "ann", "bob", 0), None, ("go", "zoe"), ("claim", ("grant", {}, None), True)):
            self.wrong(40, "TooMany", rows + [row])
            self.wrong(40, "TooMany", rows + [row] * 100)
            self.wrong(39, "BadShape", rows[:39] + [None] + [row])
        self.wrong(40, "TooMany", [("go", "ann"), ("come", "ann", ("m",))] * 30)
        six = World(Web(["m"]), {name: ("m",) for name in "uvwxyz"})
        self.wrong(39, "TooMany", [("exchange", "u", "v", 0)] * 39 + [("come", "ann", ("m",))], six)

    def test_parting(self):
        book = some_book()
        self.assertIs(parting(first=book, second=some_book()), None)
        self.same(parting(book, Book(example()[0])), "opening")
        for number in range(7):
            shorter = replayed(book.opening, book.rows[:number])
            self.same(parting(book, shorter), number)
            self.same(parting(shorter, book), number)
            if number not in (1, 5, 6):
                shorter.claim(("grant", {}, None))
                self.same([parting(book, shorter), parting(shorter, book)], [number, number])
        first, second = Book(meeting_world()), Book(meeting_world())
        for names in (("ann", "bob"), ("cat", "ann")):
            first.exchange(*names, 0)
            second.exchange(*names[::-1], 0)
        self.same(first.world.rows, second.world.rows)
        self.same(parting(first, second), 0)
        self.assertIs(parting(Book(meeting_world()), Book(meeting_world())), None)
        other = Book(done(meeting_world(), ("ann", "bob", 0)))
        other.exchange("ann", "bob", 0)
        self.same(parting(Book(meeting_world()), other), "opening")


class NothingChangesTest(Case):
    def spoil(self, value):
        """Change all lists and dicts in a value, however deep they lie."""
        if isinstance(value, (list, tuple)):
            for part in value:
                self.spoil(part)
        if isinstance(value, dict):
            for part in value.values():
                self.spoil(part)
        if isinstance(value, (list, dict)):
            value.clear()

    def test_what_was_passed(self):
        for claim in right_claims():
            book = Book(example()[0])
            book.claim(claim)
            before = picture(book)
            self.assertIs(book == book.twin(), True)
            self.spoil(claim)
            self.same(picture(book), before)
        rows = some_book().rows
        book = replayed(meeting_world(), rows)
        before = picture(book)
        self.spoil(rows)
        self.same(picture(book), before)
        self.same(picture(book), picture(some_book()))

    def test_wishes_in_claims(self):
        wishes = {"cat": ("m",), "ann": ("m", "p")}
        book = Book(meeting_world())
        book.claim(("grant", wishes, None))
        book.claim(("grant", {1: wishes, ("a", 0): [wishes]}, [wishes, ([wishes],)]))
        before = picture(book)
        wishes["bob"] = ("m",)
        self.same(picture(book), before)
        book.rows[0][1][1]["bob"] = ("m",)
        book.rows[1][1][1][1]["bob"] = ("m",)
        book.rows[1][1][2][1][0][0].clear()
        self.same(picture(book), before)
        self.same(list(book.rows[0][1][1]), ["cat", "ann"])

    def test_what_was_returned(self):
        book = some_book()
        twin, before = book.twin(), picture(book)
        self.spoil(book.rows)
        self.same(picture(book), before)
        self.spoil(twin.rows)
        self.spoil(book.undo())
        self.spoil(book.undo())
        self.same(picture(twin), before)
        other = replayed(twin.opening, twin.rows)
        self.spoil(twin.undo())
        self.same(picture(other), before)
        rows = other.rows
        passed = shown(rows)
        audit(other.opening, rows)
        replayed(other.opening, rows)
        self.same(shown(rows), passed)

    def test_in_good_time_at_the_limits(self):
        begin = time.perf_counter()
        world = pacing_world(4)
        table = bound_table(world, world)
        book = Book(world)
        for _ in range(20):
            self.assertIs(book.claim(("fewest", world, 0, [], table)), True)
        self.assertIs(audit(world, book.rows), None)
        self.assertIs(replayed(world, book.rows) == book, True)
        great = Book(full_world(6))
        row = "exchange ann bob 0\nexchange cat dan 0\nexchange eve fay 0\nbring ann 6 a\n"
        while great.many < 34:
            great.run(Errand(row))
        self.assertIs(replayed(great.opening, great.rows) == great, True)
        self.assertLess(time.perf_counter() - begin, 40)


if __name__ == "__main__":
    unittest.main()
