"""Points [1], [2] and [6] for the well."""

import unittest

from inkroot.errors import OutOfInk
from inkroot.well import Well
from tests.helpers import Case

HUGE = 10 ** 60 - 1


def filled():
    """Four hands' pourings, one of them of no sign: abc, nothing, de, fghi, j."""
    well = Well()
    for hand, text in ((1, "abc"), (2, ""), (0, "de"), (1, "fghi"), (1, "j")):
        well.pour(hand, text)
    return well


class Pouring(Case):
    def test_each_pouring_stands_behind_the_ones_ahead(self):
        well = Well()
        self.assertEqual((0, 3), well.pour(5, "abc"))
        self.assertEqual((3, 3), well.pour(5, ""))
        self.assertEqual((3, 5), well.pour(0, "de"))
        self.assertEqual((5, 5), well.pour(9, ""))
        self.assertEqual((5, 205), well.pour(HUGE, "x" * 200))
        self.assertEqual(205, well.size())

    def test_a_stretch_is_a_tuple(self):
        self.assertIs(tuple, type(Well().pour(0, "a")))
        self.assertIs(tuple, type(Well().pour(0, "")))

    def test_an_empty_text_in_a_new_well(self):
        well = Well()
        self.assertEqual((0, 0), well.pour(0, ""))
        self.assertEqual(0, well.size())
        self.assertEqual((0, 1), well.pour(0, "a"))

    def test_the_same_text_gets_addresses_of_its_own(self):
        well = Well()
        self.assertEqual([(0, 2), (2, 4)], [well.pour(1, "ab"), well.pour(1, "ab")])
        self.assertEqual(4, well.size())

    def test_an_address_keeps_its_sign_and_its_hand(self):
        well = Well()
        well.pour(3, "ab")
        for k in range(50):
            well.pour(k, "xyz")
            self.assertEqual(("a", "b", 3, 3), (well.sign(0), well.sign(1), well.hand(0), well.hand(1)))

    def test_every_sign(self):
        signs = "".join([chr(k) for k in range(32, 127) if k != 37])
        well = Well()
        well.pour(0, signs)
        self.assertEqual(signs, well.text([(0, len(signs))]))
        self.assertEqual(list(signs), [well.sign(k) for k in range(len(signs))])

    def test_a_longer_text_is_poured_too(self):
        well = Well()
        self.assertEqual((0, 1000), well.pour(0, "y" * 1000))
        self.assertEqual("y", well.sign(999))


class Addresses(Case):
    def test_sign_and_hand(self):
        well = filled()
        self.assertEqual(10, well.size())
        self.assertEqual(list("abcdefghij"), [well.sign(k) for k in range(10)])
        self.assertEqual([1, 1, 1, 0, 0, 1, 1, 1, 1, 1], [well.hand(k) for k in range(10)])

    def test_outside(self):
        for well in (Well(), filled()):
            for address in (-HUGE, -10, -1, well.size(), well.size() + 1, HUGE):
                self.assert_refused(OutOfInk, well.sign, address)
                self.assert_refused(OutOfInk, well.hand, address)

    def test_a_new_well_has_no_address(self):
        self.assertEqual(0, Well().size())
        self.assert_refused(OutOfInk, Well().sign, 0)
        self.assert_refused(OutOfInk, Well().hand, 0)


class Rows(Case):
    def test_held(self):
        well = filled()
        for row, text in (
            ([], ""),
            ([(0, 10)], "abcdefghij"),
            ([(9, 10)], "j"),
            ([(3, 5), (0, 1), (0, 1)], "deaa"),
            ([(0, 2), (2, 4)], "abcd"),
            ([(0, 3), (1, 4)], "abcbcd"),
        ):
            self.assertIs(True, well.holds(row), row)
            self.assertEqual(text, well.text(row))

    def test_not_held(self):
        well = filled()
        for pair in ((0, 0), (4, 4), (10, 10), (0, 11), (9, 11), (10, 11), (-1, 1), (-3, -1), (-1, 0), (5, 2),
                     (1, 0), (11, 3), (3, -1), (0, -1), (-2, -2), (0, HUGE), (-HUGE, HUGE), (HUGE, -HUGE)):
            for row in ([pair], [(0, 1), pair], [pair, (0, 1)], [(0, 1), pair, (2, 3)]):
                self.assertIs(False, well.holds(row), row)
                self.assert_refused(OutOfInk, well.text, row)

    def test_a_new_well_holds_no_stretch(self):
        well = Well()
        self.assertIs(True, well.holds([]))
        self.assertEqual("", well.text([]))
        for row in ([(0, 0)], [(0, 1)], [(-1, 0)]):
            self.assertIs(False, well.holds(row))
            self.assert_refused(OutOfInk, well.text, row)

    def test_a_row_is_held_from_the_pouring_on(self):
        well = Well()
        well.pour(0, "ab")
        self.assertIs(False, well.holds([(1, 3)]))
        well.pour(1, "c")
        self.assertIs(True, well.holds([(1, 3)]))
        self.assertEqual("bc", well.text([(1, 3)]))


class Poured(Case):
    def test_the_plain_row_of_each_hand(self):
        well = filled()
        self.assertEqual([(3, 5)], well.poured(0))
        self.assertEqual([(0, 3), (5, 10)], well.poured(1))

    def test_a_hand_that_poured_no_sign(self):
        well = filled()
        self.assertEqual([], well.poured(2))
        self.assertEqual([], well.poured(3))
        self.assertEqual([], well.poured(HUGE))
        self.assertEqual([], Well().poured(0))

    def test_pourings_side_by_side_are_one_stretch(self):
        well = Well()
        well.pour(4, "ab")
        well.pour(4, "")
        well.pour(5, "")
        well.pour(4, "c")
        self.assertEqual([(0, 3)], well.poured(4))

    def test_all_that_was_poured_is_some_hand_s(self):
        well = Well()
        for k in range(60):
            well.pour(k * k % 7, "z" * (k % 4))
        for hand in range(8):
            told = [address for start, stop in well.poured(hand) for address in range(start, stop)]
            self.assertEqual([k for k in range(well.size()) if well.hand(k) == hand], told)


class NothingIsShared(Case):
    def test_wells_do_not_know_of_one_another(self):
        one, other = Well(), Well()
        one.pour(1, "abc")
        self.assertEqual((0, [], False), (other.size(), other.poured(1), other.holds([(0, 1)])))
        self.assertEqual((0, 2), other.pour(2, "xy"))
        self.assertEqual(("a", "x", 1, 2), (one.sign(0), other.sign(0), one.hand(0), other.hand(0)))
        self.assertEqual(([], [(0, 2)]), (one.poured(2), other.poured(2)))
        self.assertEqual(3, one.size())

    def test_what_is_handed_in_and_told_is_apart(self):
        well = filled()
        for row in ([], [(0, 2), (2, 4)], [(3, 5), (0, 1)]):
            self.assert_apart(well.holds, list(row))
            self.assert_apart(well.text, list(row))
        self.assert_apart(well.holds, [(4, 2), (-1, 3)])
        for hand in range(4):
            self.assert_apart(well.poured, hand)

    def test_a_told_row_does_not_grow_with_the_well(self):
        well = filled()
        told = well.poured(1)
        well.pour(1, "kl")
        self.assertEqual([(0, 3), (5, 10)], told)
        self.assertEqual([(0, 3), (5, 12)], well.poured(1))

    def test_questions_change_nothing(self):
        well = filled()
        for hand in range(5):
            well.poured(hand).append((0, 1))
        self.assert_refused(OutOfInk, well.text, [(0, 1), (9, 11)])
        self.assert_refused(OutOfInk, well.sign, 10)
        self.assertEqual(10, well.size())
        self.assertEqual("abcdefghij", well.text([(0, 10)]))
        self.assertEqual([[(3, 5)], [(0, 3), (5, 10)], [], []], [well.poured(hand) for hand in range(4)])

    def test_a_refused_row_stays_as_it_was(self):
        row = [(0, 1), (9, 11)]
        self.assert_refused(OutOfInk, filled().text, row)
        self.assertEqual([(0, 1), (9, 11)], row)


if __name__ == "__main__":
    unittest.main()
