"""Points [1] and [7] for the blots."""

import itertools
import unittest

from inkroot.blots import Blots
from tests.helpers import Case, listed, scaled, small_rows, spoil

BIG = 10 ** 30
HUGE = 10 ** 60 - 1


def done(deeds):
    """New blots behind a list of deeds, each a pair of True for a blot, False for a lift, and a row."""
    blots = Blots()
    for blotted, row in deeds:
        if blotted:
            blots.blot(row)
        else:
            blots.lift(row)
    return blots


def hidden_by(deeds):
    """The rising list of the addresses that these deeds hide."""
    told = set()
    for blotted, row in deeds:
        told = told | set(listed(row)) if blotted else told - set(listed(row))
    return sorted(told)


class Hiding(Case):
    def test_new_blots_hide_nothing(self):
        self.assertEqual([], Blots().row())
        for address in (-HUGE, -1, 0, 1, HUGE):
            self.assertIs(False, Blots().hides(address))

    def test_a_blot(self):
        blots = done([(True, [(3, 5), (8, 9)])])
        self.assertEqual([(3, 5), (8, 9)], blots.row())
        self.assertEqual([3, 4, 8], [address for address in range(-2, 12) if blots.hides(address)])
        self.assertIs(True, blots.hides(3))
        self.assertIs(False, blots.hides(5))

    def test_a_lift_over_a_blot(self):
        self.assertEqual([(2, 4), (6, 9)], done([(True, [(2, 9)]), (False, [(4, 6)])]).row())
        self.assertEqual([], done([(True, [(2, 9)]), (False, [(0, 20)])]).row())
        self.assertEqual([(2, 9)], done([(True, [(2, 9)]), (False, [(0, 2), (9, 20)])]).row())

    def test_a_blot_over_a_lift(self):
        self.assertEqual([(2, 9)], done([(False, [(2, 9)]), (True, [(2, 9)])]).row())
        self.assertEqual([(5, 6)], done([(True, [(0, 9)]), (False, [(0, 9)]), (True, [(5, 6)])]).row())
        self.assertEqual([(0, 9)], done([(True, [(0, 9)]), (False, [(3, 5)]), (True, [(3, 5)])]).row())

    def test_a_lift_of_what_is_not_hidden(self):
        self.assertEqual([], done([(False, [(0, 9)])]).row())
        self.assertEqual([(1, 2)], done([(False, [(0, 9)]), (True, [(1, 2)])]).row())

    def test_one_lift_is_enough_for_two_blots_and_the_other_way(self):
        self.assertEqual([], done([(True, [(1, 3)]), (True, [(1, 3)]), (False, [(1, 3)])]).row())
        self.assertEqual([(1, 3)], done([(False, [(1, 3)]), (False, [(1, 3)]), (True, [(1, 3)])]).row())

    def test_rows_without_addresses_change_nothing(self):
        for row in ([], [(4, 4)], [(0, 0), (HUGE, HUGE)]):
            self.assertEqual([], done([(True, row)]).row())
            self.assertEqual([(3, 6)], done([(True, [(3, 6)]), (True, row)]).row())
            self.assertEqual([(3, 6)], done([(True, [(3, 6)]), (False, row)]).row())

    def test_rows_that_are_not_plain(self):
        blots = done([(True, [(7, 9), (1, 2), (2, 4), (8, 9), (5, 5), (1, 3)])])
        self.assertEqual([(1, 4), (7, 9)], blots.row())
        blots.lift([(8, 9), (3, 3), (2, 3), (8, 9)])
        self.assertEqual([(1, 2), (3, 4), (7, 8)], blots.row())

    def test_blots_side_by_side_are_one_stretch(self):
        self.assertEqual([(1, 6)], done([(True, [(3, 6)]), (True, [(1, 3)])]).row())
        self.assertEqual([(0, 9)], done([(True, [(0, 4), (5, 9)]), (True, [(4, 5)])]).row())

    def test_deeds_tell_nothing(self):
        blots = Blots()
        self.assertIsNone(blots.blot([(1, 4)]))
        self.assertIsNone(blots.lift([(2, 3)]))

    def test_stretches_that_are_told_are_tuples(self):
        self.assertEqual([tuple, tuple], [type(stretch) for stretch in done([(True, [(5, 6), (1, 2)])]).row()])


class AllSmallDeeds(Case):
    def check(self, deeds):
        blots, hidden = done(deeds), hidden_by(deeds)
        told = blots.row()
        self.assertEqual(hidden, listed(told), deeds)
        for start, stop in told:
            self.assertLess(start, stop)
        for ahead, behind in zip(told, told[1:]):
            self.assertLess(ahead[1], behind[0])
        self.assertEqual(hidden, [address for address in range(-1, 6) if blots.hides(address)])

    def test_three_deeds_of_one_stretch(self):
        deeds = [(blotted, row) for blotted in (True, False) for row in small_rows(1, 3)]
        for three in itertools.product(deeds, repeat=3):
            self.check(three)

    def test_a_blot_of_two_stretches_and_one_more_deed(self):
        for first, second in itertools.product(small_rows(2, 3), repeat=2):
            self.check([(True, first), (True, second)])
            self.check([(True, first), (False, second)])

    def test_many_deeds(self):
        deeds = [(k % 3 > 0, [(k * k % 61, k * k % 61 + k % 5), (k * 17 % 53, k * 17 % 53 + 3)]) for k in range(200)]
        blots = Blots()
        for many, (blotted, row) in enumerate(deeds, start=1):
            if blotted:
                blots.blot(row)
            else:
                blots.lift(row)
            hidden = hidden_by(deeds[:many])
            self.assertEqual(hidden, listed(blots.row()))
            self.assertEqual(hidden, [address for address in range(70) if blots.hides(address)])


class LongStretches(Case):
    def test_long_blots(self):
        blots = done([(True, [(BIG, HUGE), (5, BIG)]), (False, [(BIG + 7, BIG + 8)])])
        self.assertEqual([(5, BIG + 7), (BIG + 8, HUGE)], blots.row())
        for address in (5, BIG - 1, BIG, BIG + 6, BIG + 8, HUGE - 1):
            self.assertIs(True, blots.hides(address), address)
        for address in (-HUGE, -1, 0, 4, BIG + 7, HUGE):
            self.assertIs(False, blots.hides(address), address)

    def test_small_deeds_made_long(self):
        for first, second in itertools.product(small_rows(2, 2), repeat=2):
            for blotted in (True, False):
                small = done([(True, first), (blotted, second)])
                long = done([(True, scaled(first, BIG)), (blotted, scaled(second, BIG))])
                self.assertEqual(scaled(small.row(), BIG), long.row())


class NothingIsShared(Case):
    def test_blots_do_not_know_of_one_another(self):
        one, other = Blots(), Blots()
        one.blot([(1, 4)])
        self.assertEqual(([], False), (other.row(), other.hides(2)))
        other.blot([(2, 9)])
        one.lift([(2, 3)])
        self.assertEqual(([(1, 2), (3, 4)], [(2, 9)]), (one.row(), other.row()))

    def test_what_is_handed_in_stays_and_is_not_kept(self):
        blots = Blots()
        for deed in (blots.blot, blots.lift, blots.blot):
            for row in ([], [(1, 9)], [(6, 8), (2, 3), (3, 4), (5, 5)]):
                given = list(row)
                deed(given)
                self.assertEqual(row, given)
                before = blots.row()
                spoil(given)
                self.assertEqual(before, blots.row())

    def test_a_plain_row_handed_to_new_blots_is_not_kept(self):
        blots, given = Blots(), [(1, 3), (5, 7)]
        blots.blot(given)
        given.append((8, 9))
        given[0] = (0, 2)
        self.assertEqual([(1, 3), (5, 7)], blots.row())
        self.assertEqual([False, True, False], [blots.hides(address) for address in (0, 1, 8)])

    def test_a_told_row_may_be_changed(self):
        for blots in (Blots(), done([(True, [(1, 3), (5, 7)])]), done([(True, [(1, 9)]), (False, [(3, 5)])])):
            before = blots.row()
            spoil(blots.row())
            self.assertEqual(before, blots.row())
            self.assertEqual(listed(before), [address for address in range(12) if blots.hides(address)])

    def test_a_told_row_stays_as_it_was(self):
        blots = done([(True, [(1, 9)])])
        told = blots.row()
        blots.blot([(20, 30)])
        blots.lift([(3, 4)])
        self.assertEqual([(1, 9)], told)

    def test_a_told_row_may_be_handed_in_again(self):
        blots = done([(True, [(1, 9)])])
        told = blots.row()
        blots.blot(told)
        self.assertEqual([(1, 9)], blots.row())
        blots.lift(told)
        self.assertEqual(([], [(1, 9)]), (blots.row(), told))


if __name__ == "__main__":
    unittest.main()
