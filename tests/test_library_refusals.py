"""Points [1], [2], [12], [13] and [14]: what a library refuses, in which order, and that it then changes nothing."""

import copy
import unittest

from inkroot.desk import does
from inkroot.errors import (
    InkError, NoMoment, NoSheet, NotYours, NoTie, OutOfInk, OutOfPlace, Ring, TooHeavy, TooMany,
)
from inkroot.library import Library
from tests.helpers import Case, all_told, library

HUGE = 10 ** 60 - 1
# Pairs that no well of 210 signs holds.
NOT_HELD = [(0, 0), (4, 4), (210, 210), (0, 211), (210, 211), (-1, 1), (-3, -1), (-1, 0), (5, 2), (3, -1), (-2, -2),
            (0, HUGE), (-HUGE, HUGE), (HUGE, -HUGE)]


def house():
    """Hand 1 has the signs 0 to 199, hand 2 ten more.

    Sheet 0 is there from moment 3 on, shows three signs and had a window upon sheet 1 at moment 6; sheet 1 is there from
    moment 4 on, looks upon sheet 0 and upon sheet 2; sheet 2 is there from moment 5 on and weighs 150.
    """
    return library(
        "pour 1 " + "a" * 200, "pour 2 " + "b" * 10, "fresh", "fresh", "fresh", "window 0 0 1", "fix 0", "put 0 0 0-3",
        "window 1 0 0", "put 2 0 0-150", "window 1 3 2", "tie 0-1 / 1-2", "tie 0-1 / 3-4", "untie 0", "blot 1 5-6", "read 0",
    )


class RefusalCase(Case):
    def assert_unchanged(self, place, kind, deed):
        """The deed is refused with this very class, and neither the library nor what is handed in changes."""
        before, given = all_told(place), copy.deepcopy(deed)
        with self.assertRaises(InkError) as caught:
            does(place, deed)
        self.assertIs(kind, type(caught.exception), deed)
        self.assertEqual(given, deed)
        self.assertEqual(before, all_told(place), deed)


    def check(self, kind, *deeds):
        place = house()
        for deed in deeds:
            self.assert_unchanged(place, kind, deed)


class Deeds(RefusalCase):
    def test_the_house(self):
        place = house()
        self.assertEqual([[("ink", 0, 3)], [("win", 0), ("win", 2)], [("ink", 0, 150)]], [place.row(k) for k in range(3)])
        self.assertEqual(([("win", 1)], 16), (place.row_then(0, 6), place.now()))
        self.assertEqual([3, 155, 150], [place.weight(k) for k in range(3)])

    def test_no_sheet(self):
        for wrong in (-HUGE, -1, 3, 4, 40, HUGE):
            self.check(NoSheet, ("put", wrong, 0, [(0, 1)]), ("cut", wrong, 0, 0), ("move", wrong, 0, 0, 0), ("fix", wrong),
                       ("quote", wrong, 0, 0, 0, 1), ("quote", 0, 0, wrong, 0, 0), ("quote", wrong, 0, wrong, 0, 0),
                       ("window", wrong, 0, 0), ("window", 0, 0, wrong), ("window", wrong, 0, wrong),
                       ("back", wrong, 16), ("fork", wrong, 16), ("read", wrong))

    def test_no_moment(self):
        for wrong in (-HUGE, -1, 17, 18, HUGE):
            self.check(NoMoment, ("back", 0, wrong), ("fork", 2, wrong))

    def test_no_sheet_yet_at_the_moment(self):
        for sheet in range(3):
            for moment in (0, 1, 2 + sheet):
                self.check(NoSheet, ("back", sheet, moment), ("fork", sheet, moment))

    def test_no_tie(self):
        self.check(NoTie, *[("untie", number) for number in (-HUGE, -1, 0, 2, 3, HUGE)])

    def test_out_of_place(self):
        for wrong in (-HUGE, -1, 4, 5, HUGE):
            self.check(OutOfPlace, ("put", 0, wrong, [(0, 1)]), ("put", 0, wrong, []), ("cut", 0, wrong, 3),
                       ("cut", 0, 0, wrong), ("cut", 0, wrong, wrong), ("move", 0, wrong, 3, 0), ("move", 0, 0, wrong, 0),
                       ("move", 0, wrong, wrong, 0), ("move", 0, 1, 1, wrong), ("quote", 0, wrong, 2, 0, 1),
                       ("quote", 0, wrong, 2, 1, 1), ("quote", 2, 0, 0, wrong, 3), ("quote", 2, 0, 0, 0, wrong),
                       ("quote", 2, 0, 0, wrong, wrong), ("window", 0, wrong, 2))
        self.check(OutOfPlace, ("cut", 0, 2, 1), ("cut", 2, 150, 0), ("move", 0, 2, 1, 0), ("quote", 2, 0, 0, 3, 2),
                   ("move", 0, 0, 3, 1), ("move", 0, 1, 2, 3), ("move", 0, 0, 0, 4), ("move", 0, 0, 1, -1))

    def test_places_on_the_edge_are_there(self):
        for deed in (("put", 0, 3, []), ("cut", 0, 3, 3), ("cut", 0, 0, 3), ("move", 0, 3, 3, 3), ("move", 0, 0, 3, 0),
                     ("move", 0, 0, 1, 2), ("quote", 0, 3, 0, 3, 3), ("quote", 2, 150, 0, 0, 3), ("window", 2, 150, 0)):
            does(house(), deed)

    def test_out_of_ink(self):
        for pair in NOT_HELD:
            for row in ([pair], [(0, 1), pair], [pair, (0, 1)]):
                self.check(OutOfInk, ("put", 0, 0, row), ("strike", row), ("blot", 1, row), ("lift", 1, row),
                           ("tie", row, [(0, 1)]), ("tie", [(0, 1)], row), ("tie", row, row), ("tie", [], row))

    def test_a_new_library_holds_the_row_without_stretches_alone(self):
        for row in ([(0, 0)], [(0, 1)], [(-1, 0)]):
            for deed in (("strike", row), ("blot", 1, row), ("lift", 1, row), ("tie", row, []), ("tie", [], row)):
                self.assert_unchanged(Library(), OutOfInk, deed)
        for deed in (("strike", []), ("blot", 1, []), ("lift", 1, []), ("tie", [], [])):
            does(Library(), deed)

    def test_not_yours(self):
        for row in ([(0, 1)], [(203, 205), (0, 1)], [(0, 1), (203, 205)], [(199, 201)], [(0, 210)]):
            self.check(NotYours, ("blot", 2, row), ("lift", 2, row), ("blot", 0, row), ("lift", HUGE, row))
        self.check(NotYours, ("blot", 1, [(199, 201)]), ("lift", 1, [(5, 6), (209, 210)]))
        for deed in (("blot", 2, [(200, 210), (205, 206)]), ("lift", 1, [(0, 200), (5, 6)]), ("lift", 9, [])):
            does(house(), deed)

    def test_too_many(self):
        place = house()
        for number in range(3, 40):
            place.fresh()
        for deed in (("fresh",), ("fork", 0, 16), ("fork", 39, place.now())):
            self.assert_unchanged(place, TooMany, deed)

    def test_ring(self):
        self.check(Ring, ("window", 0, 0, 0), ("window", 0, 0, 1), ("window", 2, 0, 1), ("window", 2, 3, 2), ("back", 0, 6))

    def test_too_heavy(self):
        self.check(TooHeavy, ("put", 2, 0, [(0, 46)]), ("put", 1, 0, [(0, 46)]), ("put", 0, 0, [(100, 146)]),
                   ("quote", 1, 0, 2, 0, 46), ("quote", 0, 0, 2, 0, 46), ("quote", 2, 0, 2, 0, 46), ("window", 0, 0, 2),
                   ("window", 1, 0, 2))
        for deed in (("put", 2, 0, [(0, 45)]), ("put", 0, 0, [(0, 45)]), ("quote", 0, 0, 2, 0, 45)):
            does(house(), deed)


class Order(RefusalCase):
    def test_no_sheet_comes_first(self):
        bad = [(0, 0)]
        self.check(NoSheet, ("put", 3, 99, bad), ("put", -1, 0, bad), ("cut", 3, 5, 2), ("move", 3, 5, 2, -1),
                   ("quote", 3, -1, 0, 9, 2), ("quote", 0, 99, 3, 9, 2), ("quote", 0, 0, -1, 9, 2), ("window", 3, 99, 3),
                   ("window", 0, 99, 3), ("window", 3, 0, 1), ("back", 3, 99), ("back", -1, -1), ("fork", 3, 17),
                   ("back", HUGE, HUGE))

    def test_no_moment_ahead_of_all_behind_it(self):
        place = house()
        for number in range(3, 40):
            place.fresh()
        for deed in (("fork", 0, -1), ("fork", 2, place.now() + 1)):
            self.assert_unchanged(place, NoMoment, deed)
        for deed in (("fork", 2, 0), ("fork", 39, 16)):
            self.assert_unchanged(place, NoSheet, deed)
        self.assert_unchanged(place, NoSheet, ("fork", 40, 0))

    def test_out_of_place_ahead_of_all_behind_it(self):
        self.check(OutOfPlace, ("put", 0, 4, [(5, 2)]), ("put", 0, -1, [(0, 211)]), ("put", 0, 4, [(0, 200)]),
                   ("quote", 0, 4, 2, 0, 150), ("window", 0, 4, 0), ("window", 2, 151, 1), ("window", 0, 4, 2))

    def test_out_of_ink_ahead_of_all_behind_it(self):
        self.check(OutOfInk, ("put", 0, 0, [(0, 211)]), ("put", 0, 0, [(0, 200), (3, 3)]), ("blot", 2, [(0, 211)]),
                   ("blot", 1, [(200, 210), (3, 3)]), ("lift", 3, [(5, 2)]), ("lift", 2, [(0, 1), (-1, 0)]))

    def test_too_many_ahead_of_too_heavy(self):
        lines = ["pour 1 " + "a" * 200, "fresh", "fresh", "window 0 0 1", "fix 0", "put 1 0 0-200"]
        self.assert_unchanged(library(*lines), TooHeavy, ("fork", 0, 4))
        self.assert_unchanged(library(*lines, *["fresh"] * 38), TooMany, ("fork", 0, 4))

    def test_ring_ahead_of_too_heavy(self):
        lines = ["pour 1 " + "a" * 200, "fresh", "fresh", "fresh", "window 0 0 1", "window 0 0 2", "fix 0", "window 1 0 0"]
        self.assert_unchanged(library(*lines), Ring, ("back", 0, 6))
        self.assert_unchanged(library(*lines, "put 2 0 0-200"), Ring, ("back", 0, 6))
        self.assert_unchanged(library("pour 1 " + "a" * 200, "fresh", "put 0 0 0-200"), Ring, ("window", 0, 0, 0))


class Questions(Case):
    def check(self, kind, *questions):
        """Each question, a tuple of its name and what is handed in, is refused and changes nothing."""
        place = house()
        before = all_told(place)
        for name, *given in questions:
            kept = copy.deepcopy(given)
            self.assert_refused(kind, getattr(place, name), *given)
            self.assertEqual(kept, given)
        self.assertEqual(before, all_told(place))

    def test_no_sheet(self):
        for wrong in (-HUGE, -1, 3, 40, HUGE):
            self.check(NoSheet, ("row", wrong), ("shown", wrong), ("text", wrong), ("size", wrong), ("weight", wrong),
                       ("found", wrong, "a"), ("found", wrong, ""), ("ties_of", wrong), ("shares", wrong),
                       ("common", wrong, 0), ("common", 0, wrong), ("common", wrong, wrong))
            for moment in (-1, 0, 3, 16, 17, HUGE):
                self.check(NoSheet, ("row_then", wrong, moment), ("shown_then", wrong, moment),
                           ("text_then", wrong, moment), ("since", wrong, moment))

    def test_no_moment(self):
        for wrong in (-HUGE, -1, 17, 18, HUGE):
            for sheet in range(3):
                self.check(NoMoment, ("row_then", sheet, wrong), ("shown_then", sheet, wrong), ("text_then", sheet, wrong),
                           ("since", sheet, wrong))

    def test_no_sheet_yet(self):
        for sheet in range(3):
            for moment in range(3 + sheet):
                self.check(NoSheet, ("row_then", sheet, moment), ("shown_then", sheet, moment), ("text_then", sheet, moment),
                           ("since", sheet, moment))

    def test_no_tie(self):
        for wrong in (-HUGE, -1, 0, 2, HUGE):
            self.check(NoTie, ("ends", wrong), ("followed", wrong))

    def test_out_of_ink(self):
        for wrong in (-HUGE, -210, -1, 210, 211, HUGE):
            self.check(OutOfInk, ("places", wrong))
        for pair in NOT_HELD:
            self.check(OutOfInk, ("ties_on", [pair]), ("ties_on", [(0, 1), pair]), ("ties_on", [pair, (0, 1)]))

    def test_a_new_library(self):
        place = Library()
        self.assert_refused(OutOfInk, place.places, 0)
        self.assert_refused(OutOfInk, place.ties_on, [(0, 0)])
        self.assert_refused(NoSheet, place.row, 0)
        self.assert_refused(NoSheet, place.row_then, 0, 0)
        self.assert_refused(NoTie, place.ends, 0)


if __name__ == "__main__":
    unittest.main()
