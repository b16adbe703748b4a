"""Points [1], [22] and [23] for the book, for deeds that are done by tuples and lines, and for the desk."""

import unittest

from inkroot.desk import Desk, does, relived
from inkroot.errors import (
    InkError, NoDeed, NoMoment, NoSheet, NotYours, NoTie, OutOfInk, OutOfPlace, Ring, TooHeavy, TooMany,
)
from inkroot.library import Library
from tests.helpers import Case, all_told, library

HUGE = 10 ** 60 - 1
# Every deed, with what it tells when all of them are done in order on a new library.
DEEDS = [
    (("pour", 3, "root and ink"), (0, 12)),
    (("pour", 0, ""), (12, 12)),
    (("pour", 0, " "), (12, 13)),
    (("fresh",), 0),
    (("fresh",), 1),
    (("put", 0, 0, [(0, 4), (4, 5), (9, 12)]), None),
    (("put", 0, 0, []), None),
    (("window", 1, 0, 0), None),
    (("read", 1), "root ink"),
    (("quote", 1, 8, 0, 4, 8), None),
    (("cut", 0, 0, 5), None),
    (("move", 1, 0, 3, 4), None),
    (("read", 1), " inkink"),
    (("fix", 1), None),
    (("back", 1, 8), None),
    (("fork", 0, 6), 2),
    (("blot", 3, [(0, 2)]), None),
    (("read", 2), "##ot ink"),
    (("lift", 3, [(0, 1), (1, 2)]), None),
    (("lift", 9, []), None),
    (("tie", [(0, 1)], [(2, 3), (3, 4)]), 0),
    (("tie", [], []), 1),
    (("untie", 0), None),
    (("tie", [], [(0, 1)]), 2),
    (("strike", [(0, 1)]), None),
    (("strike", []), None),
]
LINES = [
    "pour 3 root and ink", "pour 0 ", "pour 0  ", "fresh", "fresh", "put 0 0 0-4 4-5 9-12", "put 0 0", "window 1 0 0",
    "read 1", "quote 1 8 0 4 8", "cut 0 0 5", "move 1 0 3 4", "read 1", "fix 1", "back 1 8", "fork 0 6", "blot 3 0-2",
    "read 2", "lift 3 0-1 1-2", "lift 9", "tie 0-1 / 2-3 3-4", "tie /", "untie 0", "tie / 0-1", "strike 0-1", "strike",
]
# A refused line for each refusal, behind LINES.
REFUSED = [
    ("read 3", NoSheet), ("back 0 99", NoMoment), ("back 0 2", NoSheet), ("untie 0", NoTie), ("cut 0 0 4", OutOfPlace),
    ("put 0 0 0-14", OutOfInk), ("put 0 0 2-2", OutOfInk), ("put 0 0 5-2", OutOfInk), ("blot 3 12-13", NotYours),
    ("window 0 0 1", Ring), ("window 0 0 0", Ring), ("", NoDeed), ("pour 3", NoDeed), ("fresh ", NoDeed),
    ("read -1", NoDeed), ("tie 0-1", NoDeed), ("0-1 @3", NoDeed), ("put 0 0 @1", NoDeed),
]


def done():
    """A library behind all DEEDS."""
    house = Library()
    for deed, told in DEEDS:
        does(house, deed)
    return house


class Book(Case):
    def test_each_deed_is_written_in_order(self):
        house = Library()
        for many, (deed, told) in enumerate(DEEDS, start=1):
            does(house, deed)
            self.assertEqual(LINES[:many], house.lines())

    def test_rows_stand_as_they_were_handed_in(self):
        house = library("pour 1 abcdef", "fresh")
        house.put(0, 0, [(0, 1), (1, 3), (0, 1)])
        house.strike([(2, 3), (1, 2), (2, 3)])
        house.blot(1, [(0, 6), (3, 4)])
        house.lift(1, [(4, 5), (5, 6), (0, 1)])
        house.tie([(1, 2), (2, 3)], [(3, 4), (0, 3)])
        self.assertEqual(["put 0 0 0-1 1-3 0-1", "strike 2-3 1-2 2-3", "blot 1 0-6 3-4", "lift 1 4-5 5-6 0-1",
                          "tie 1-2 2-3 / 3-4 0-3"], house.lines()[2:])

    def test_a_refused_deed_is_not_written(self):
        house = done()
        for line, kind in REFUSED:
            if kind is not NoDeed:
                self.assert_refused(kind, relived, LINES + [line])
        self.assert_refused(OutOfInk, house.put, 0, 0, [(0, 99)])
        self.assert_refused(NoSheet, house.read, 9)
        self.assert_refused(Ring, house.window, 0, 0, 0)
        self.assertEqual(LINES, house.lines())

    def test_a_new_library_has_no_lines(self):
        self.assertEqual([], Library().lines())

    def test_huge_numbers(self):
        house = Library()
        house.pour(HUGE, "a")
        house.blot(HUGE, [(0, 1)])
        self.assertEqual([f"pour {HUGE} a", f"blot {HUGE} 0-1"], house.lines())
        self.assertEqual(all_told(house), all_told(relived(house.lines())))


class Does(Case):
    def test_every_deed_and_what_it_tells(self):
        house = Library()
        for deed, told in DEEDS:
            self.assertEqual(told, does(house, deed), deed)
        names = "pour fresh put cut move quote window fix back fork strike blot lift tie untie read".split()
        self.assertEqual(set(names), {deed[0] for deed, told in DEEDS})

    def test_it_does_what_the_library_s_own_deed_does(self):
        house, other = Library(), Library()
        for deed, told in DEEDS:
            does(house, deed)
            getattr(other, deed[0])(*deed[1:])
            self.assertEqual(all_told(other), all_told(house))

    def test_refusals(self):
        house = done()
        before = all_told(house)
        for deed, kind in (
            (("put", 3, 0, []), NoSheet), (("fork", 0, -1), NoMoment), (("back", 0, 3), NoSheet), (("untie", 9), NoTie),
            (("move", 0, 0, 1, 9), OutOfPlace), (("put", 0, 0, [(-1, 2)]), OutOfInk), (("lift", 4, [(0, 1)]), NotYours),
            (("window", 0, 0, 1), Ring), (("cut", 0, -1, 2), OutOfPlace), (("quote", 0, 0, -1, 0, 0), NoSheet),
        ):
            self.assert_refused(kind, does, house, deed)
            self.assertEqual(before, all_told(house))

    def test_a_name_that_no_deed_has(self):
        for deed in (("now",), ("text", 0), ("Fresh",), ("",)):
            self.assert_refused(NoDeed, does, done(), deed)

    def test_the_ring_s_way(self):
        with self.assertRaises(Ring) as caught:
            does(done(), ("window", 0, 0, 1))
        self.assertEqual([0, 1, 0], caught.exception.way)

    def test_too_many_and_too_heavy(self):
        house = library(*["fresh"] * 40, "pour 1 " + "a" * 200, "put 0 0 0-200")
        self.assert_refused(TooMany, does, house, ("fresh",))
        self.assert_refused(TooHeavy, does, house, ("put", 0, 0, [(0, 1)]))


class Relived(Case):
    def test_no_lines(self):
        house = relived([])
        self.assertEqual((0, 0, []), (house.now(), house.many(), house.lines()))
        self.assertIsInstance(house, Library)

    def test_the_same_library(self):
        house, again = done(), relived(LINES)
        self.assertEqual(all_told(house), all_told(again))
        self.assertEqual(all_told(house), all_told(relived(house.lines())))
        for many in range(len(LINES)):
            self.assertEqual(LINES[:many], relived(LINES[:many]).lines())

    def test_it_goes_on_as_the_first_one_would(self):
        house, again = done(), relived(LINES)
        for deed in (("fresh",), ("tie", [], []), ("pour", 5, "x"), ("fork", 1, 9)):
            self.assertEqual(does(house, deed), does(again, deed))
        self.assertEqual(all_told(house), all_told(again))

    def test_each_refusal(self):
        for line, kind in REFUSED:
            self.assert_refused(kind, relived, LINES + [line])

    def test_the_first_refused_line_alone(self):
        for line, kind in REFUSED:
            for other, later in REFUSED:
                self.assert_refused(kind, relived, LINES + [line, other])
        self.assert_refused(NoSheet, relived, ["read 0", "no deed"])
        self.assert_refused(NoDeed, relived, ["no deed", "read 0"])
        self.assert_refused(NoSheet, relived, ["fresh", "read 1", "", "fresh"])

    def test_later_lines_are_not_looked_at(self):
        self.assert_refused(NoSheet, relived, ["fresh", "read 1", None])

    def test_lines_stay_and_may_be_changed(self):
        lines = list(LINES)
        house = relived(lines)
        self.assertEqual(LINES, lines)
        before = all_told(house)
        lines.clear()
        house.lines().append("fresh")
        self.assertEqual(before, all_told(house))
        lines = LINES + ["no deed"]
        self.assert_refused(NoDeed, relived, lines)
        self.assertEqual(LINES + ["no deed"], lines)


class Saying(Case):
    def test_a_new_desk(self):
        desk = Desk()
        self.assertIsInstance(desk.house, Library)
        self.assertEqual((0, 0, []), (desk.house.now(), desk.house.many(), desk.house.lines()))
        self.assertEqual((True, 0), desk.say("fresh"))
        self.assertEqual((1, 0), (desk.house.many(), Desk().house.many()))

    def test_what_is_told(self):
        desk = Desk()
        for line, (deed, told) in zip(LINES, DEEDS, strict=True):
            self.assertEqual((True, told), desk.say(line), line)
        self.assertEqual(all_told(done()), all_told(desk.house))

    def test_it_tells_a_tuple(self):
        told = Desk().say("fresh")
        self.assertEqual((tuple, bool, int), (type(told), type(told[0]), type(told[1])))
        told = Desk().say("read 0")
        self.assertEqual((tuple, bool, str), (type(told), type(told[0]), type(told[1])))

    def test_refusals_by_name(self):
        desk = Desk()
        for line in LINES:
            desk.say(line)
        before = all_told(desk.house)
        for line, kind in REFUSED:
            self.assertEqual((False, kind.__name__), desk.say(line), line)
            self.assertEqual(before, all_told(desk.house))

    def test_too_many_and_too_heavy(self):
        desk = Desk()
        for line in ["fresh"] * 40 + ["pour 1 " + "a" * 200, "put 0 0 0-200"]:
            desk.say(line)
        self.assertEqual((False, "TooMany"), desk.say("fresh"))
        self.assertEqual((False, "TooMany"), desk.say("fork 0 40"))
        self.assertEqual((False, "TooHeavy"), desk.say("put 0 0 0-1"))
        self.assertEqual((False, "TooHeavy"), desk.say("window 1 0 0"))

    def test_every_refusal_is_tried(self):
        tried = {kind.__name__ for line, kind in REFUSED} | {"TooMany", "TooHeavy"}
        kinds = {kind.__name__ for kind in InkError.__subclasses__()}
        self.assertEqual(kinds - {"NoRow"}, tried)

    def test_it_goes_on_behind_a_refusal(self):
        desk = Desk()
        told = [desk.say(line) for line in ("read 0", "fresh", "oh", "pour 2 ab", "put 0 0 0-2", "put 0 0 0-3", "read 0")]
        self.assertEqual([(False, "NoSheet"), (True, 0), (False, "NoDeed"), (True, (0, 2)), (True, None),
                          (False, "OutOfInk"), (True, "ab")], told)
        self.assertEqual((["fresh", "pour 2 ab", "put 0 0 0-2", "read 0"], 4), (desk.house.lines(), desk.house.now()))

    def test_the_house_may_be_used_by_itself(self):
        desk = Desk()
        desk.house.pour(1, "ab")
        self.assertEqual((True, 0), desk.say("fresh"))
        does(desk.house, ("put", 0, 0, [(0, 2)]))
        self.assertEqual((True, "ab"), desk.say("read 0"))
        self.assertEqual(["pour 1 ab", "fresh", "put 0 0 0-2", "read 0"], desk.house.lines())


if __name__ == "__main__":
    unittest.main()
