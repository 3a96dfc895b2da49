"""Texts: points 19 and 20, and the interface of crossfarers/texts.py."""

import itertools
import unittest

from crossfarers.errors import BadText
from crossfarers.texts import read_world, world_text
from crossfarers.worlds import Web, World
from tests.helpers import Case

TEXT = "towns a m p q\nway a m\nway m p\nway m q\nplan ann m p p\nplan bob q\nplan cat a m q m p m a\n"
LINES = TEXT.split("\n")[:-1]


def with_line(at, line):
    """Return the text with another line in the place of the one with this index."""
    return "".join(one + "\n" for one in [*LINES[:at], line, *LINES[at + 1:]])


def small_texts():
    """Return the texts of all worlds of two towns and two travellers with plans of at most two towns."""
    webs = [Web(["m"]), Web(["p"]), Web(["m", "p"]), Web.full(["m", "p"])]
    rows = []
    for web in webs:
        plans = [None, *[(town,) for town in web], *[(a, b) for a in web for b in web if web.joins(a, b)]]
        for ann, bob in itertools.product(plans, repeat=2):
            told = {name: plan for name, plan in (("ann", ann), ("bob", bob)) if plan}
            if told:
                rows.append(world_text(World(web, told)))
    return rows


class WritingTest(Case):
    def test_the_text_of_a_world(self):
        web = Web(["q", "m", "p", "a"], [("q", "m"), ("p", "m"), ("m", "a")])
        plans = {"cat": ("a", "m", "q", "m", "p", "m", "a"), "ann": ("m", "p", "p"), "bob": ("q",)}
        self.same(world_text(World(web, plans)), TEXT)
        self.same(world_text(world=World(web, {"ann": ("q",)})),
                  "towns a m p q\nway a m\nway m p\nway m q\nplan ann q\n")

    def test_the_least_text(self):
        self.same(world_text(World(Web(["m"]), {"a": ("m",)})), "towns m\nplan a m\n")

    def test_the_longest_text(self):
        towns = ["abcdefg" + sign for sign in "abcdefgh"]
        names = ["zyxwvut" + sign for sign in "123456"]
        world = World(Web.full(towns), {name: tuple(towns[:7]) for name in names})
        text = world_text(world)
        self.same(len(text.split("\n")), 1 + 28 + 6 + 1)
        self.assertTrue(read_world(text) == world)


class ReadingTest(Case):
    def wrong(self, line, text):
        self.refused(BadText, {"line": line}, read_world, text)

    def test_the_examples_of_the_interface(self):
        self.same(read_world("towns m p\nway m p\nplan ann m m p\n")["ann"], ("m", "m", "p"))
        self.wrong(2, "towns m p\nplan ann m p\n")

    def test_reading_and_writing_lead_back(self):
        self.same(world_text(read_world(TEXT)), TEXT)
        world = read_world(text=TEXT)
        self.same(world.rows, (("ann", ("m", "p", "p")), ("bob", ("q",)), ("cat", ("a", "m", "q", "m", "p", "m", "a"))))
        self.same([world.web.towns, world.web.ways],
                  [("a", "m", "p", "q"), (("a", "m"), ("m", "p"), ("m", "q"))])
        for text in small_texts():
            self.same(world_text(read_world(text)), text)

    def test_words_of_the_language_may_be_names(self):
        text = "towns plan towns way\nway plan way\nplan plan plan way\nplan towns towns\nplan way plan\n"
        self.same(world_text(read_world(text)), text)

    def test_ends_of_lines(self):
        self.wrong(len(LINES), TEXT[:-1])
        self.wrong(len(LINES) + 1, TEXT + "\n")
        self.wrong(len(LINES) + 1, TEXT + "\n\n")
        self.wrong(len(LINES) + 1, TEXT + "x")
        self.wrong(len(LINES) + 1, TEXT + " ")
        self.wrong(len(LINES) + 1, TEXT + "plan dan m")
        self.wrong(1, "towns m")
        self.wrong(2, "towns m\nplan ann m")
        self.wrong(1, "towns")
        self.wrong(1, " ")

    def test_a_wrong_line_goes_before_a_missing_end(self):
        self.wrong(1, "town m\nplan ann m")
        self.wrong(2, "towns m\nplan ann\nplan bob m")

    def test_empty_lines(self):
        for at in range(len(LINES)):
            self.wrong(at + 1, with_line(at, ""))
            self.wrong(at + 1, with_line(at, "\n" + LINES[at]))
        self.wrong(1, "\n")
        self.wrong(1, "\n" + TEXT)

    def test_a_text_that_ends_too_early(self):
        self.wrong(1, "")
        for many in range(1, 5):
            self.wrong(many + 1, "".join(line + "\n" for line in LINES[:many]))
        self.wrong(2, "towns m\n")

    def test_blanks(self):
        for at, line in enumerate(LINES):
            self.wrong(at + 1, with_line(at, " " + line))
            self.wrong(at + 1, with_line(at, line + " "))
            self.wrong(at + 1, with_line(at, line.replace(" ", "", 1)))
            for place, sign in enumerate(line):
                if sign == " ":
                    self.wrong(at + 1, with_line(at, line[:place] + " " + line[place:]))

    def test_first_words(self):
        for at, line in enumerate(LINES):
            for word in ("town", "Towns", "ways", "plans", "x", "-"):
                self.wrong(at + 1, with_line(at, " ".join([word, *line.split(" ")[1:]])))
        self.wrong(2, with_line(1, "towns a m p q"))
        self.wrong(1, with_line(0, "way a m"))
        self.wrong(1, with_line(0, "plan ann m"))
        self.wrong(8, TEXT + "towns a m p q\n")

    def test_towns(self):
        for line in ("towns", "towns m a", "towns a a m", "towns a m p q q", "towns a m p q Q", "towns a -",
                     "towns a b c d e f g h i", "towns abcdefghi", "towns a 1"):
            self.wrong(1, line + "\nplan ann a\n")
        self.same(read_world("towns a b c d e f g h\nplan ann h\n").web.towns, tuple("abcdefgh"))

    def test_ways(self):
        for line in ("way", "way a", "way a p q", "way p a", "way a a", "way a x", "way x z", "way a -", "way - a",
                     "way A a", "way a m p"):
            self.wrong(2, with_line(1, line))
        self.wrong(3, with_line(2, "way a m"))
        self.wrong(3, with_line(1, "way m p"))
        self.wrong(3, with_line(1, "way p q"))
        self.wrong(4, with_line(3, "way a p"))
        self.wrong(4, with_line(3, "way m p"))

    def test_a_way_behind_a_plan(self):
        self.wrong(8, TEXT + "way p q\n")
        self.wrong(6, with_line(5, "way p q"))
        self.wrong(3, "towns m p\nplan ann m\nway m p\n")

    def test_plans(self):
        for line in ("plan", "plan ann", "plan ann x", "plan ann m x", "plan ann x m", "plan ann -", "plan ann m -",
                     "plan - m", "plan Ann m", "plan abcdefghi m", "plan ann a p", "plan ann m a q",
                     "plan ann m m m m m m m m", "plan ann p q", "plan 1 m"):
            self.wrong(5, with_line(4, line))
        self.same(read_world(with_line(4, "plan ann m m m m m m m"))["ann"], ("m",) * 7)
        self.same(read_world(with_line(4, "plan abcdefgh m"))["abcdefgh"], ("m",))

    def test_a_plan_may_take_a_way_in_either_direction(self):
        self.same(read_world("towns m p\nway m p\nplan ann p m p p\n")["ann"], ("p", "m", "p", "p"))

    def test_plans_out_of_order(self):
        self.wrong(6, with_line(5, "plan ann q"))
        self.wrong(6, with_line(4, "plan bob m"))
        self.wrong(7, with_line(6, "plan b m"))
        self.wrong(7, with_line(4, "plan cat m").replace("plan bob", "plan dan"))
        self.wrong(8, TEXT + "plan bob m\n")

    def test_six_and_seven_plans(self):
        text = "towns m\n" + "".join(f"plan {name} m\n" for name in "abcdef")
        self.same(read_world(text).names, tuple("abcdef"))
        self.wrong(8, text + "plan g m\n")

    def test_the_first_wrong_line_counts(self):
        self.wrong(3, "towns m p\nway m p\nplan ann x\nplan bob\n\nway")

    def test_lengths_of_texts(self):
        for many in (1999, 2000):
            self.wrong(1, "x" * many)
            self.wrong(8, TEXT + "x" * (many - len(TEXT)))
        for many in (2001, 2002):
            self.misshapen("text", read_world, "x" * many)
            self.misshapen("text", read_world, TEXT + "\n" * (many - len(TEXT)))

    def test_what_is_no_text(self):
        for value in (None, True, False, 0, [], [TEXT], (TEXT,), (), {}, {TEXT: 1}):
            self.misshapen("text", read_world, value)

    def test_by_the_words_of_the_point(self):
        begins = {tuple(text.split("\n")[:many]) for text in small_texts() for many in range(len(text.split("\n")))}
        whole = {tuple(text.split("\n")[:-1]) for text in small_texts()}
        candidates = ["towns m", "towns m p", "towns p m", "way m p", "way p m", "plan ann m", "plan ann m p",
                      "plan bob p p", "plan bob x", ""]
        for many in range(5):
            for lines in itertools.product(candidates, repeat=many):
                bad = [at for at in range(1, many + 1) if lines[:at] not in begins]
                text = "".join(line + "\n" for line in lines)
                if bad or lines not in whole:
                    self.wrong((bad or [many + 1])[0], text)
                else:
                    self.same(world_text(read_world(text)), text)


if __name__ == "__main__":
    unittest.main()
