"""Errands: points 89 to 94, and the interface of crossfarers/errands.py."""

import time
import unittest

from crossfarers.deeds import replay
from crossfarers.errands import Errand
from crossfarers.errors import BadErrand, ErrandStopped
from crossfarers.flows import bring_history
from crossfarers.worlds import Web, World
from tests.helpers import Case
from tests.samples import full_world, meeting_world, plain_done

BLOCKS = ("if at ann 0 m", "while over ann 6", "until at ann 0 m", "each $v 0 m")


class Stopped(Exception):
    """What the interpreter of the tests raises where an errand stops."""


def six_world():
    """Return a world in which all six travellers stand in one town on day 0, and some stay there."""
    plans = {"ann": ("m", "m"), "bob": ("m", "m", "m"), "cat": ("m",), "dan": ("m",), "eve": ("m",), "fay": ("m",)}
    return World(Web(["m", "p"]), plans)


def idle_rows(steps):
    """Return rows that take exactly this many steps in a world in which six stand in m on day 0, and do no deeds."""
    rows = []
    left = steps
    for names, size, turns in (("xyz", 43, 216), ("xy", 7, 36), ("x", 1, 6)):
        if left >= size + turns:
            many = (left - size) // turns
            rows += [*[f"each ${name} 0 m" for name in names], *["bring $x 0 m"] * many, *["end"] * len(names)]
            left -= size + many * turns
    return rows + ["bring ann 0 m"] * left


def plain_errand(text, world):
    """Return how an errand ends, found by an interpreter of its own: deeds and plans, or where and why it stops."""
    rows = [line.split() for line in text.split("\n") if line.split()]
    history, plans, count, names = [], [world.plans], [0], {}

    def stop(line, reason):
        raise Stopped(line, reason, list(history))

    def step(line):
        if count[0] >= 300:
            stop(line, "TooLong")
        count[0] += 1

    def known(line, travellers, towns):
        for name in travellers:
            if name not in plans[0]:
                stop(line, "UnknownTraveller")
        for town in towns:
            if town not in world.web.towns:
                stop(line, "UnknownTown")

    def place(name, day):
        return plans[0][name][day] if day < len(plans[0][name]) else None

    def holds(line, words):
        kind, *told = words
        who = [names.get(word, word) for word in (told[:2] if kind == "with" else told[:1])]
        known(line, who, told[2:] if kind == "at" else [])
        if kind == "at":
            return place(who[0], int(told[1])) == told[2]
        if kind == "over":
            return place(who[0], int(told[1])) is None
        return place(who[0], int(told[2])) is not None and place(who[0], int(told[2])) == place(who[1], int(told[2]))

    def look(line, words):
        step(line)
        sizes = {"at": 4, "with": 4, "over": 3}
        while words:
            turned = words[0] == "not"
            words = words[turned:]
            size = sizes[words[0]]
            if holds(line, words[:size]) == turned:
                return False
            words = words[size + 1:]
        return True

    def act(line, words):
        step(line)
        if words[0] == "exchange":
            x, y = (names.get(word, word) for word in words[1:3])
            day = int(words[3])
            known(line, [x, y], [])
            deeds = [(x, y, day)]
            reason = "SameTraveller" if x == y else "PlanOver" if None in (place(x, day), place(y, day)) else (
                "UnlikeTowns" if place(x, day) != place(y, day) else None)
        else:
            x, goal = names.get(words[1], words[1]), (int(words[2]), words[3])
            known(line, [x], [goal[1]])
            deeds = bring_history(World(world.web, plans[0]), x, goal)
            reason = "NoWayThere" if deeds is None else None
        if reason:
            stop(line, reason)
        if len(history) + len(deeds) > 60:
            stop(line, "TooLong")
        for deed in deeds:
            history.append(deed)
            plans[0] = plain_done(plans[0], deed)

    def block(at):
        """Return the index of the else or end behind a line, at the depth of the block around it."""
        depth = 0
        while depth or rows[at][0] not in ("else", "end"):
            depth += rows[at][0] in ("if", "while", "until", "each")
            depth -= rows[at][0] == "end"
            at += 1
        return at

    def run(at, end):
        while at < end:
            words, line = rows[at], at + 1
            if words[0] in ("exchange", "bring"):
                act(line, words)
                at += 1
                continue
            turn = block(at + 1)
            close = turn if rows[turn][0] == "end" else block(turn + 1)
            if words[0] == "if":
                run(*((at + 1, turn) if look(line, words[1:]) else (turn + 1, close)))
            elif words[0] == "each":
                step(line)
                known(line, [], [words[3]])
                for name in sorted(name for name in plans[0] if place(name, int(words[2])) == words[3]):
                    names[words[1]] = name
                    run(at + 1, close)
            else:
                if words[0] == "until":
                    run(at + 1, close)
                while look(line, words[1:]) == (words[0] == "while"):
                    run(at + 1, close)
            at = close + 1

    try:
        run(0, len(rows))
    except Stopped as error:
        return error.args
    return history, dict(sorted(plans[0].items()))


def made_errands(many):
    """Return texts of errands, picked by a fixed rule."""
    seed = [12345]

    def pick(things):
        seed[0] = (seed[0] * 1103515245 + 12345) % 2 ** 31
        return things[(seed[0] >> 8) % len(things)]

    def test(variables):
        form = pick([("at", 1, True), ("with", 2, False), ("over", 1, False)])
        words = [pick(["not", ""]), form[0], *[pick(["ann", "bob", "cat", "zoe"] * 3 + variables * 4)
                                              for _ in range(form[1])], pick("0011223")]
        return " ".join(words + ([pick("mmmppq")] if form[2] else []))

    def tests(variables):
        return " and ".join(test(variables) for _ in range(pick([1, 1, 2, 3])))

    def body(depth, variables):
        lines = []
        for _ in range(pick([0, 1, 2, 2, 3])):
            who = ["ann", "bob", "cat", "dan"] * 2 + variables * 8
            kind = pick(["exchange", "exchange", "bring", "if", "while", "until", "each", "each"])
            if kind == "exchange" or depth == 4 and kind != "bring":
                lines.append(f"exchange {pick(who)} {pick(who)} {pick('0012')}")
            elif kind == "bring":
                lines.append(f"bring {pick(who)} {pick('0112')} {pick('mpq')}")
            elif kind == "each":
                name = f"$v{depth}"
                lines += [f"each {name} {pick('0123')} {pick('mmpq')}", *body(depth + 1, variables + [name]), "end"]
            else:
                lines += [f"{kind} {tests(variables)}", *body(depth + 1, variables)]
                if kind == "if" and pick([0, 1]):
                    lines += ["else", f"bring {pick(who)} 1 {pick('mp')}", *body(depth + 1, variables)]
                lines.append("end")
        return lines

    found = []
    while len(found) < many:
        lines = body(0, [])
        if 0 < len(lines) <= 40:
            found.append("\n".join(lines))
    return found


class ReadingTest(Case):
    def wrong(self, line, *rows):
        """Check that the lines make no errand, and that this line is the first wrong one."""
        self.refused(BadErrand, {"line": line}, Errand, "\n".join(rows))
        self.refused(BadErrand, {"line": line}, Errand, "\n".join(rows) + "\n")

    def test_the_example_of_the_interface(self):
        self.same(Errand("each $v 0 m\n\n  bring   $v 1 p\nend").text, "each $v 0 m\n  bring $v 1 p\nend\n")
        self.same(Errand(text="each $v 0 m\n\n  bring   $v 1 p\nend").lines, 3)

    def test_each_form(self):
        text = ("exchange ann bob 6\nbring ann 0 m\nif at ann 1 p\nelse\n  exchange b10 b9 0\nend\n"
                "while not over ann 2\nend\nuntil with ann bob 0 and not at bob 1 q and over cat 6\n"
                "  exchange a a 1\nend\n"
                "each $abcdefgh 6 abcdefgh\n  if with $abcdefgh $abcdefgh 5\n    bring $abcdefgh 2 m\n  end\nend\n")
        self.same(Errand(text).text, text)
        self.same(Errand(text).lines, 16)

    def test_empty_errands(self):
        for text in ("", "\n", " ", "   \n\n  \n", "\n \n"):
            self.same([Errand(text).text, Errand(text).lines], ["", 0])
            self.same(Errand(text)(six_world())[0], [])

    def test_blanks_and_line_feeds(self):
        for text in ("bring ann 0 m", "bring ann 0 m\n", "\n\nbring ann 0 m\n\n\n", "   bring    ann  0 m   ",
                     " \nbring ann 0 m\n ", "bring ann 0 m\n   \n  "):
            self.same(Errand(text).text, "bring ann 0 m\n")
        text = "if over ann 0\n   else   \nend"
        self.same(Errand(text).text, "if over ann 0\nend\n")

    def test_names_that_are_words_of_the_language(self):
        text = ("exchange exchange and 0\nbring bring 1 end\nif at not 2 at and with and not 3 and not over end 4\n"
                "  exchange else end 1\nelse\n  bring each 0 while\nend\neach $and 1 until\n  bring $and 1 each\nend\n"
                "each $each 1 each\n  exchange $each each 1\nend\n")
        self.same(Errand(text).text, text)

    def test_empty_elses(self):
        self.same(Errand("if over ann 0\nelse\n\nif over ann 1\nelse\nend\n  \nend").text,
                  "if over ann 0\nelse\n  if over ann 1\n  end\nend\n")
        self.same(Errand("if over ann 0\nbring ann 0 m\nelse\n \nend\n").lines, 3)
        self.same(Errand("if over ann 0\nif over ann 1\nelse\nend\nelse\nend").text,
                  "if over ann 0\n  if over ann 1\n  end\nend\n")
        self.same(Errand("if over ann 0\nelse\nwhile over ann 0\nend\nend").lines, 5)

    def test_depths(self):
        text = "".join("  " * depth + block + "\n" for depth, block in enumerate(BLOCKS))
        text += "        bring $v 0 m\n" + "".join("  " * depth + "end\n" for depth in (3, 2, 1, 0))
        self.same(Errand("\n".join(line.strip() for line in text.split("\n"))).text, text)

    def test_equality(self):
        errand = Errand("if over ann 0\nelse\nend\nbring ann 0 m")
        self.assertIs(errand == Errand(" if  over ann 0\n end\n\nbring ann 0 m\n\n"), True)
        for other in (Errand("if over ann 0\nbring ann 0 m\nend"), Errand("bring ann 0 m"), Errand(""), errand.text,
                      None, 0, [], six_world()):
            self.assertIs(errand == other, False)
            self.assertIs(errand != other, True)
        self.assertIs(Errand("") == Errand(" \n"), True)

    def test_wrong_values(self):
        for text in (None, True, 0, [], (), {}, ["bring ann 0 m"], ("",), " " * 6001, "\n" * 6001,
                     "bring ann 0 m" + " " * 5988):
            self.misshapen("text", Errand, text)
        self.same(Errand(" " * 6000).text, "")
        self.same(Errand("bring ann 0 m" + " " * 5987).text, "bring ann 0 m\n")
        self.refused(BadErrand, {"line": 6000}, Errand, "\n" * 5999 + "x")

    def test_wrong_forms(self):
        good = "bring ann 0 m"
        for line in ("exchange", "exchange ann bob", "exchange ann bob 0 0", "exchange ann bob 7",
                     "exchange ann bob 01", "exchange ann bob -1", "exchange ann bob m", "exchange ann - 0",
                     "exchange Ann bob 0", "exchange ann abcdefghi 0", "exchange $v bob 0", "exchange ann $v 0",
                     "exchange 0 ann bob", "exchange ann bob 0.", "bring", "bring ann 0", "bring ann m 0",
                     "bring ann 0 -", "bring ann 0 $v", "bring ann 0 m m", "bring $v 0 m", "bring ann 7 m",
                     "bring - 0 m", "bring ann 0 M", "BRING ann 0 m", "Bring ann 0 m", "bring, ann 0 m",
                     "move ann 0 m", "ann", "$v", "if", "while", "until", "each", "not", "at ann 0 m", "and",
                     "if ann", "if at", "if at ann 0", "if at ann 0 m m", "if at ann 7 m", "if at ann 0 -",
                     "if at $v 0 m", "if at ann 0 $v", "if with ann 0", "if with ann bob m", "if with ann bob 0 m",
                     "if over ann", "if over ann m", "if over ann 0 0", "if not", "if not not over ann 0",
                     "if over not ann 0", "if and over ann 0", "if over ann 0 and", "if over ann 0 over ann 0",
                     "if over ann 0 and and over ann 0", "if over ann 0 or over ann 0", "if over ann 0 and not",
                     "if over ann 0 and over ann 1 and over ann 2 and over ann 3",
                     "if over ann 0 and over ann 1 and over ann 2 and", "while x ann 0",
                     "until at ann 0 m and with ann 0", "each $v 0", "each v 0 m", "each $ 0 m", "each $V 0 m",
                     "each $1 0 m", "each $abcdefghi 0 m", "each $v 7 m", "each $v 0 -", "each $v 0 $v",
                     "each $v 0 m p", "each $$v 0 m", "each ann 0 m", "else", "end", "else if", "end if", "End",
                     "if at ann 0 m else", "exchange  ann\tbob 0", "if over ann 0 not over ann 1", "if \"over\" ann 0"):
            for before in ((), (good,), ("", "  ", good, "")):
                self.refused(BadErrand, {"line": len(before) + 1}, Errand, "\n".join([*before, line]))
                self.refused(BadErrand, {"line": len(before) + 1}, Errand, "\n".join([*before, line, good, "end", ""]))

    def test_else_and_end(self):
        for block in BLOCKS:
            self.wrong(3, block, "end", "end")
            self.wrong(3, block, "end", "else")
            self.wrong(4, block, "else", "end", "else") if block == BLOCKS[0] else self.wrong(2, block, "else", "end")
        self.wrong(3, BLOCKS[0], "else", "else")
        self.wrong(5, BLOCKS[0], "else", "bring ann 0 m", "", "else", "end")
        self.wrong(3, BLOCKS[0], BLOCKS[1], "else")
        self.wrong(4, BLOCKS[0], "else", BLOCKS[2], "else")
        self.same(Errand("\n".join([BLOCKS[0], BLOCKS[1], "end", "else", "bring ann 0 m", "end"])).lines, 6)
        self.wrong(1, "else")
        self.wrong(2, "", "end")

    def test_variables(self):
        self.wrong(3, "each $v 0 m", "end", "bring $v 0 m")
        self.wrong(2, "each $v 0 m", "bring $w 0 m")
        self.wrong(2, "each $v 0 m", "bring v $v m")
        self.wrong(2, "each $v 0 m", "each $v 1 m")
        self.wrong(3, "each $v 0 m", "each $w 0 m", "each $v 1 m")
        self.wrong(4, "each $v 0 m", "each $w 0 m", "end", "bring $w 1 m")
        self.wrong(2, "each $v 0 m", "while over $w 1", "end", "end")
        self.wrong(2, "each $v 0 m", "while over ann 1 and at $v 0 $v", "end", "end")
        self.same(Errand("each $v 0 m\nend\neach $v 0 m\neach $w 0 m\nexchange $v $w 0\nend\nend").lines, 7)
        self.same(Errand("each $v 0 m\nif over $v 0\nelse\nbring $v 0 m\nend\nuntil over $v 1\nend\nend").lines, 8)
        self.wrong(5, "each $v 0 m", "each $w 0 m", "end", "end", "until over $w 0", "end")

    def test_open_blocks(self):
        for block in BLOCKS:
            self.wrong(2, block)
            self.wrong(3, block, "bring ann 0 m")
            self.refused(BadErrand, {"line": 4}, Errand, f"{block}\n\n ")
            self.refused(BadErrand, {"line": 3}, Errand, f"{block}\n\n")
        self.wrong(3, "if over ann 0", "else")
        self.wrong(4, BLOCKS[3], BLOCKS[0], "end")
        four = [BLOCKS[0]] * 4
        self.same(Errand("\n".join(four + ["end"] * 4)).lines, 8)
        for block in (*BLOCKS[:3], "each $w 0 m"):
            self.wrong(5, *four, block, *["end"] * 5)
        self.wrong(6, *four, "bring ann 0 m", BLOCKS[1])
        self.same(Errand("\n".join(four + ["end", BLOCKS[1]] + ["end"] * 4)).lines, 10)
        self.wrong(6, *four, "else", "while over ann 0", "end")
        self.wrong(5, *four)

    def test_forty_lines(self):
        row = "bring ann 0 m"
        self.same(Errand("\n".join([row] * 40)).lines, 40)
        self.same(Errand("\n \n".join([row] * 40) + "\n\n").lines, 40)
        self.wrong(41, *[row] * 41)
        self.wrong(82, *["", row] * 41)
        self.wrong(41, *[row] * 40, "end")
        self.wrong(40, *[row] * 39, "end")
        self.same(Errand("\n".join([row] * 37 + ["if over ann 0", "else", "end"])).lines, 39)
        self.wrong(41, *[row] * 38, "if over ann 0", "else", "end")
        self.wrong(41, *[row] * 39, "if over ann 0", "end")
        self.refused(BadErrand, {"line": 41}, Errand, "\n".join([row] * 39 + ["if over ann 0"]))

    def test_the_first_wrong_line(self):
        self.wrong(2, "bring ann 0 m", "x", "y")
        self.wrong(1, "x", "if over ann 0")
        self.wrong(3, "if over ann 0", "", "x", "else")


class StatementsTest(Case):
    def done(self, world, *rows):
        """Return the deeds of the errand, and check that it ends in the world to which they lead."""
        errand = Errand("\n".join(rows))
        history, end = errand(world)
        self.assertIs(replay(world, history) == end, True)
        self.same((history, end.plans), plain_errand(errand.text, world))
        return history

    def stopped(self, line, reason, history, world, *rows):
        """Check that the errand stops there, for this reason, behind these deeds."""
        errand = Errand("\n".join(rows))
        self.refused(ErrandStopped, {"line": line, "reason": reason, "history": history}, errand, world)
        self.same(plain_errand(errand.text, world), (line, reason, history))

    def test_exchange(self):
        world = meeting_world()
        self.same(self.done(world, "exchange ann bob 0"), [("ann", "bob", 0)])
        self.same(self.done(world, "exchange bob ann 0", "exchange bob cat 1"), [("bob", "ann", 0), ("bob", "cat", 1)])
        self.stopped(1, "UnknownTraveller", [], world, "exchange zoe ann 0")
        self.stopped(1, "UnknownTraveller", [], world, "exchange ann zoe 0")
        self.stopped(1, "UnknownTraveller", [], world, "exchange zoe zoe 6")
        self.stopped(1, "SameTraveller", [], world, "exchange ann ann 6")
        self.stopped(1, "PlanOver", [], world, "exchange ann eve 1")
        self.stopped(1, "UnlikeTowns", [], world, "exchange ann dan 0")
        self.stopped(2, "UnlikeTowns", [("ann", "bob", 0)], world, "exchange ann bob 0", "exchange ann cat 1")

    def test_bring(self):
        world = meeting_world()
        self.same(self.done(world, "bring eve 3 q"), [("eve", "dan", 0), ("eve", "ann", 2)])
        self.same(self.done(world, "bring ann 0 m"), [])
        self.stopped(1, "UnknownTraveller", [], world, "bring zoe 3 x")
        self.stopped(1, "UnknownTown", [], world, "bring eve 3 x")
        self.stopped(1, "NoWayThere", [], world, "bring eve 3 m")
        self.stopped(1, "NoWayThere", [], world, "bring eve 0 r")
        self.stopped(2, "NoWayThere", [("ann", "bob", 0)], world, "exchange ann bob 0", "bring ann 6 q")

    def test_if(self):
        world = meeting_world()
        for test, holds in (("at ann 0 m", True), ("at ann 0 p", False), ("at ann 6 m", False),
                            ("not at ann 0 m", False), ("not at ann 6 m", True),
                            ("over eve 1", True), ("over eve 0", False),
                            ("not over eve 1", False), ("with ann bob 0", True), ("with ann bob 1", False),
                            ("with ann ann 3", True), ("with ann ann 4", False), ("with eve bob 6", False),
                            ("with ann eve 0", False), ("with ann cat 1 and at dan 1 p", True),
                            ("with ann cat 1 and not at dan 1 p", False), ("over ann 0 and at ann 0 m", False),
                            ("at ann 0 m and at bob 0 m and not over cat 1", True),
                            ("at ann 0 m and at bob 0 m and over cat 1", False)):
            self.same(self.done(world, f"if {test}", "exchange ann bob 0", "else", "exchange ann cat 0", "end"),
                      [("ann", "bob" if holds else "cat", 0)])
            self.same(self.done(world, f"if {test}", "exchange ann bob 0", "end"), [("ann", "bob", 0)] * holds)
            self.same(self.done(world, f"if {test}", "else", "exchange ann bob 0", "end"),
                      [("ann", "bob", 0)] * (not holds))

    def test_tests_stop_too(self):
        world = meeting_world()
        for block in ("if", "while"):
            self.stopped(1, "UnknownTraveller", [], world, f"{block} at zoe 0 x", "end")
            self.stopped(1, "UnknownTown", [], world, f"{block} at ann 0 x", "end")
            self.stopped(1, "UnknownTown", [], world, f"{block} not at ann 6 x", "end")
            self.stopped(1, "UnknownTraveller", [], world, f"{block} with ann zoe 0", "end")
            self.stopped(1, "UnknownTraveller", [], world, f"{block} with zoe zoe 6", "end")
            self.stopped(1, "UnknownTraveller", [], world, f"{block} not over zoe 6", "end")
            self.stopped(1, "UnknownTown", [], world, f"{block} at ann 0 m and at ann 0 x and over zoe 0", "end")
            self.same(self.done(world, f"{block} over ann 0 and at zoe 0 x and at ann 0 x", "end"), [])
        self.stopped(2, "UnknownTraveller", [("ann", "bob", 0)], world, "exchange ann bob 0", "", "until over zoe 0",
                     "end")
        self.stopped(1, "UnknownTraveller", [("ann", "bob", 0)], world, "until over zoe 0", "exchange ann bob 0",
                     "end")

    def test_while(self):
        world = meeting_world()
        self.same(self.done(world, "while at ann 1 p", "exchange ann bob 0", "end"), [("ann", "bob", 0)])
        self.same(self.done(world, "while at ann 1 m", "exchange ann bob 0", "end"), [])
        self.same(self.done(world, "while not over ann 2 and with ann bob 0", "exchange ann cat 0", "end"),
                  [("ann", "cat", 0)])

    def test_until(self):
        world = meeting_world()
        self.same(self.done(world, "until at ann 0 m", "exchange ann bob 0", "end"), [("ann", "bob", 0)])
        self.same(self.done(world, "until at ann 1 p", "exchange ann bob 0", "end"), [("ann", "bob", 0)] * 2)
        self.same(self.done(world, "until at ann 0 m", "end"), [])
        self.stopped(1, "UnknownTown", [("ann", "bob", 0)], world, "until at ann 0 x", "exchange ann bob 0", "end")

    def test_each(self):
        world = meeting_world()
        self.same(self.done(world, "each $v 0 m", "if over $v 2", "exchange $v ann 0", "end", "end"),
                  [("cat", "ann", 0)])
        self.same(self.done(world, "each $v 0 q", "exchange dan eve 0", "bring $v 0 q", "end"),
                  [("dan", "eve", 0)] * 2)
        self.same(self.done(world, "each $v 6 m", "exchange $v $v 0", "end"), [])
        self.stopped(1, "UnknownTown", [], world, "each $v 6 x", "end")
        self.stopped(2, "SameTraveller", [], world, "each $v 0 m", "exchange $v ann 0", "end")

    def test_each_notes_the_travellers_when_it_begins(self):
        world = meeting_world()
        self.same([name for name in world.names if world.place(name, 1) == "p"], ["ann", "cat", "dan"])
        history = self.done(world, "each $v 1 p", "if with $v bob 0", "exchange $v bob 0", "end", "end")
        self.same(history, [("ann", "bob", 0), ("cat", "bob", 0)])
        self.same(replay(world, history).place("ann", 1), "m")
        twice = self.done(world, "each $v 0 q", "each $w 0 q", "if not at $w 1 p", "bring $w 1 p", "end", "end", "end")
        self.same(twice, [("eve", "dan", 0), ("dan", "eve", 0), ("eve", "dan", 0)])

    def test_lines_of_the_canonical_text(self):
        world = meeting_world()
        self.stopped(4, "NoWayThere", [], world, "", "if at ann 0 p", "else", "  ", "end", "", "if at ann 0 m",
                     "bring eve 3 m", "end")
        self.stopped(5, "PlanOver", [], world, "if at ann 0 p", "bring ann 0 m", "else", "each $v 0 q",
                     "exchange $v eve 6", "end", "end")
        self.stopped(3, "UnknownTown", [], world, "if at ann 0 m", "else", "end", "bring ann 0 x")

    def test_histories_of_stops(self):
        world = meeting_world()
        errand = Errand("exchange ann bob 0\nbring zoe 0 m")
        for _ in range(2):
            with self.assertRaises(ErrandStopped) as caught:
                errand(world)
            self.same(caught.exception.history, [("ann", "bob", 0)])
            caught.exception.history.clear()

    def test_against_another_interpreter(self):
        worlds = [World(Web.full(["m", "p", "q"]), plans) for plans in (
            {"ann": ("m", "p", "q"), "bob": ("m", "m"), "cat": ("p", "p", "m", "m"), "dan": ("m", "p")},
            {"ann": ("m",), "bob": ("m", "q", "q"), "cat": ("m", "p"), "dan": ("q", "q", "p")})]
        ends = {}
        for text in made_errands(900):
            errand = Errand(text)
            self.same(errand.text, Errand(errand.text).text)
            for world in worlds:
                wanted = plain_errand(errand.text, world)
                try:
                    history, end = errand(world)
                    found = (history, end.plans)
                except ErrandStopped as error:
                    found = (error.line, error.reason, error.history)
                self.same(found, wanted)
                ends[len(found) == 3 and found[1]] = ends.get(len(found) == 3 and found[1], 0) + 1
        self.assertLessEqual({False, "TooLong", "UnknownTraveller", "SameTraveller", "PlanOver", "UnlikeTowns",
                              "NoWayThere"}, set(ends))


class BoundsTest(Case):
    def stopped(self, line, reason, many, world, *rows):
        """Check that the errand stops there, for this reason, behind so many deeds."""
        with self.assertRaises(ErrandStopped) as caught:
            Errand("\n".join(rows))(world)
        found = caught.exception
        self.same([found.line, found.reason, len(found.history)], [line, reason, many])

    def test_endless_loops(self):
        world = six_world()
        for block, line in (("while at ann 0 m", 3), ("until at ann 0 p", 2)):
            self.stopped(1, "TooLong", 0, world, block, "end")
            self.stopped(line, "TooLong", 0, world, "bring ann 0 m", block, "bring ann 0 m", "end")
            self.stopped(line, "TooLong", 0, world, "bring ann 0 m", block, "each $v 6 m", "end", "end")
        self.stopped(1, "TooLong", 0, world, "while at ann 0 m", "bring ann 0 m", "end")
        self.stopped(2, "TooLong", 0, world, "until at ann 0 p", "bring ann 0 m", "end")
        self.stopped(2, "TooLong", 60, world, "while at ann 0 m", "exchange ann bob 0", "end")

    def test_the_last_step(self):
        world = six_world()
        for steps in (1, 298, 299, 300):
            rows = idle_rows(steps)
            more = min(301 - steps, 5)
            self.same(Errand("\n".join(rows))(world)[0], [])
            self.same(Errand("\n".join(rows + ["bring ann 0 m"] * (more - 1)))(world)[0], [])
            if steps + more == 301:
                self.stopped(len(rows) + more, "TooLong", 0, world, *rows, *["bring ann 0 m"] * more)

    def test_what_counts_as_a_step(self):
        world = six_world()
        four = ["each $a 0 m", "each $b 0 m", "each $c 0 m", "each $d 0 m"]
        for rows, steps in (
                (["bring ann 0 m"], 1), (["exchange ann bob 0"], 1), (["if at ann 0 m", "end"], 1),
                (["if at ann 0 p", "else", "end"], 1), (["if at ann 0 m and at bob 0 m and at cat 0 p", "end"], 1),
                (["if at ann 0 p", "else", "bring ann 0 m", "end"], 2), (["if at ann 0 m", "bring ann 0 m", "end"], 2),
                (["while at ann 0 p", "end"], 1), (["while at ann 0 p", "bring ann 0 m", "end"], 1),
                (["until at ann 0 m", "end"], 1), (["until at ann 0 m", "bring ann 0 m", "end"], 2),
                (["while at ann 1 m", "exchange ann cat 0", "end"], 3), (["each $v 0 m", "end"], 1),
                (["until not at ann 1 m", "exchange ann cat 0", "end"], 2), (["each $v 5 m", "end"], 1),
                (["each $v 1 m", "bring $v 0 m", "end"], 3), (["each $v 0 m", "if over $v 0", "end", "end"], 7),
                ([*four, *["end"] * 4], 259), ([*four[:3], *["end"] * 3], 43)):
            deeds = Errand("\n".join([*rows, *idle_rows(300 - steps)]))(world)[0]
            self.assertLessEqual(len(deeds), 1)
            more = [*rows, *idle_rows(300 - steps), "bring ann 0 m"]
            self.stopped(len(more) - ("else" in rows and rows[2] == "end"), "TooLong", len(deeds), world, *more)

    def test_sixty_deeds(self):
        world = six_world()
        row = "exchange ann bob 0"
        self.same(len(Errand("\n".join([row] * 40))(world)[0]), 40)
        many = ["each $v 0 m", *[row] * 9, "end"]
        self.same(len(Errand("\n".join(many + [row] * 6))(world)[0]), 60)
        self.stopped(18, "TooLong", 60, world, *many, *[row] * 7)
        self.same(len(Errand("\n".join(many + [row] * 6 + ["bring ann 0 m"] * 3))(world)[0]), 60)
        for last, reason in (("exchange ann ann 0", "SameTraveller"), ("exchange ann zoe 0", "UnknownTraveller"),
                             ("exchange ann bob 6", "PlanOver"), ("bring ann 6 m", "NoWayThere"),
                             ("bring ann 6 x", "UnknownTown"), ("bring cat 1 m", "TooLong"),
                             ("each $v 0 x", "UnknownTown"), ("if over zoe 0", "UnknownTraveller")):
            block = ["end"] if last[:2] in ("ea", "if") else []
            self.stopped(18, reason, 60, world, *many, *[row] * 6, last, *block)

    def test_a_bring_of_several_deeds_is_not_done_in_part(self):
        world = meeting_world()
        self.same(len(bring_history(world, "eve", (3, "q"))), 2)
        row = "exchange ann bob 0"
        many = ["each $v 0 m", "each $w 0 m", *[row] * 6, "end", "end"]
        self.same(len(Errand("\n".join(many))(world)[0]), 54)
        self.same(len(Errand("\n".join(many + [row] * 4 + ["bring eve 3 q"]))(world)[0]), 60)
        self.stopped(16, "TooLong", 59, world, *many, *[row] * 5, "bring eve 3 q")

    def test_steps_go_ahead_of_all_other_reasons(self):
        world = six_world()
        rows = idle_rows(300)
        for row in ("exchange zoe zoe 0", "bring zoe 0 x", "if at zoe 0 x", "each $v 0 x", "while at zoe 0 x",
                    "until at zoe 0 x"):
            more = [row] if row[:2] in ("ex", "br") else [row, "end"]
            self.stopped(len(rows) + 1, "TooLong", 0, world, *rows, *more)
            with self.assertRaises(ErrandStopped) as caught:
                Errand("\n".join([*idle_rows(299), *more]))(world)
            self.assertNotEqual(caught.exception.reason, "TooLong")

    def test_in_good_time_at_the_limits(self):
        world = full_world(6)
        begin = time.perf_counter()
        lines = ["each $v 0 a", "each $w 0 a", "bring $v 6 a", "bring $w 5 b", "bring $v 4 c", "end", "end"]
        for name in world.names[:4]:
            lines += ["while at ann 0 a and not over bob 6", *[f"bring {name} {day} a" for day in (0, 3, 6)], "end"]
        with self.assertRaises(ErrandStopped):
            Errand("\n".join(lines))(world)
        towns = World(Web.full(list("abcdefgh")), {name: tuple(row) for name, row in zip(
            "uvwxyz", ("abacada", "acabaea", "adaeaba", "aeadafa", "afagaha", "agafaga"))})
        with self.assertRaises(ErrandStopped):
            Errand("while not over u 6\nbring u 6 a\nbring v 6 a\nbring w 6 a\nend")(towns)
        self.assertLess(time.perf_counter() - begin, 30)


class NothingChangesTest(Case):
    def test_what_is_returned(self):
        world = meeting_world()
        errand = Errand("exchange ann bob 0\nbring eve 3 q")
        rows = world.rows
        history, end = errand(world)
        wanted = list(history)
        history.clear()
        self.same(errand(world)[0], wanted)
        self.same([world.rows, errand(world)[1].rows], [rows, end.rows])
        self.same(errand.text, "exchange ann bob 0\nbring eve 3 q\n")


if __name__ == "__main__":
    unittest.main()
