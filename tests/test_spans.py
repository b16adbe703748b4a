"""Points [1] to [5] for the functions of spans.py."""

import unittest

from inkroot.errors import OutOfPlace
from inkroot.spans import (
    addresses, at, cut_out, drawn, joined, meets, part, places, plain, put_in, size, spread, without,
)
from tests.helpers import Case, listed, scaled, small_rows

BIG = 10 ** 30
HUGE = 10 ** 60 - 1
MIXED = [(4, 7), (2, 2), (7, 9), (0, 3), (4, 5), (4, 5)]


class Plain(Case):
    def test_empty_stretches_go(self):
        self.assertEqual([], plain([]))
        self.assertEqual([], plain([(0, 0), (5, 5), (HUGE, HUGE)]))
        self.assertEqual([(1, 2)], plain([(0, 0), (1, 2), (9, 9)]))

    def test_stretches_that_touch_become_one(self):
        self.assertEqual([(1, 9)], plain([(1, 3), (3, 4), (4, 9)]))
        self.assertEqual([(0, 4)], plain([(0, 2), (7, 7), (2, 2), (2, 4)]))

    def test_other_stretches_stay(self):
        for row in ([(3, 5), (1, 3)], [(1, 3), (1, 3)], [(1, 5), (4, 9)], [(1, 2), (3, 4)]):
            self.assertEqual(row, plain(row))

    def test_same_address_twice_stays_twice(self):
        self.assertEqual([(4, 5), (4, 6)], plain([(4, 5), (4, 5), (5, 6)]))

    def test_long_stretches(self):
        self.assertEqual([(0, HUGE)], plain([(0, BIG), (BIG, HUGE)]))
        self.assertEqual([(0, BIG), (BIG + 1, HUGE)], plain([(0, BIG), (BIG + 1, HUGE)]))

    def test_all_small_rows(self):
        for row in small_rows(3, 3):
            told = plain(row)
            self.assertIs(list, type(told))
            self.assertEqual(listed(row), listed(told), row)
            for start, stop in told:
                self.assertLess(start, stop)
            for ahead, behind in zip(told, told[1:]):
                self.assertNotEqual(ahead[1], behind[0])
            self.assertEqual(told, plain(told))

    def test_stretches_that_are_told_are_tuples(self):
        for told in (plain(MIXED), spread(MIXED), drawn([1, 2, 5]), without(MIXED, [(4, 5)]), part(MIXED, 1, 8)):
            self.assertEqual([tuple] * len(told), [type(stretch) for stretch in told])


class SizeAndAt(Case):
    def test_size(self):
        self.assertEqual(0, size([]))
        self.assertEqual(0, size([(3, 3)]))
        self.assertEqual(10, size(MIXED))
        self.assertEqual(HUGE + BIG - 5, size([(0, HUGE), (5, BIG)]))

    def test_at_each_place_of_all_small_rows(self):
        for row in small_rows(3, 2):
            told = listed(row)
            self.assertEqual(len(told), size(row))
            self.assertEqual(told, [at(row, place) for place in range(len(told))], row)

    def test_at_outside(self):
        for row in ([], [(2, 2)], [(0, 1)], MIXED):
            for place in (-HUGE, -1, size(row), size(row) + 1, HUGE):
                self.assert_refused(OutOfPlace, at, row, place)

    def test_at_in_long_stretches(self):
        row = [(7, 7), (5, BIG), (0, HUGE)]
        self.assertEqual(5, at(row, 0))
        self.assertEqual(BIG - 1, at(row, BIG - 6))
        self.assertEqual(0, at(row, BIG - 5))
        self.assertEqual(HUGE - 1, at(row, BIG - 5 + HUGE - 1))
        self.assert_refused(OutOfPlace, at, row, BIG - 5 + HUGE)


class ByPlaces(Case):
    def test_part(self):
        self.assertEqual([(5, 9), (0, 1)], part(MIXED, 1, 6))
        self.assertEqual([(4, 9), (0, 3), (4, 5), (4, 5)], part(MIXED, 0, 10))
        self.assertEqual([], part([], 0, 0))

    def test_cut_out(self):
        self.assertEqual([(4, 5), (1, 3), (4, 5), (4, 5)], cut_out(MIXED, 1, 6))
        self.assertEqual([], cut_out(MIXED, 0, 10))
        self.assertEqual([(4, 9), (0, 3), (4, 5), (4, 5)], cut_out(MIXED, 10, 10))
        self.assertEqual([(1, 4)], cut_out([(1, 3), (8, 9), (3, 4)], 2, 3))

    def test_put_in(self):
        self.assertEqual([(2, 3), (8, 9), (3, 4)], put_in([(2, 4)], 1, [(8, 9)]))
        self.assertEqual([(2, 4)], put_in([(2, 4)], 1, [(8, 8)]))
        self.assertEqual([(1, 5)], put_in([(1, 2), (4, 5)], 1, [(2, 3), (3, 4)]))
        self.assertEqual([(8, 9)], put_in([], 0, [(8, 9)]))

    def test_joined(self):
        self.assertEqual([(1, 6)], joined([(1, 3)], [(3, 6)]))
        self.assertEqual([(3, 6), (1, 3)], joined([(3, 6)], [(1, 3)]))
        self.assertEqual([(1, 3), (1, 3)], joined([(1, 3)], [(1, 3)]))
        self.assertEqual([], joined([], [(4, 4)]))

    def test_part_and_cut_out_of_all_small_rows(self):
        for row in small_rows(3, 2):
            told = listed(row)
            for start in range(len(told) + 1):
                for stop in range(start, len(told) + 1):
                    self.assertEqual(drawn(told[start:stop]), part(row, start, stop))
                    self.assertEqual(drawn(told[:start] + told[stop:]), cut_out(row, start, stop))

    def test_put_in_and_joined_of_all_small_rows(self):
        for row in small_rows(2, 3):
            told = listed(row)
            for other in small_rows(2, 2):
                added = listed(other)
                self.assertEqual(drawn(told + added), joined(row, other))
                for place in range(len(told) + 1):
                    self.assertEqual(drawn(told[:place] + added + told[place:]), put_in(row, place, other))

    def test_places_that_are_not_there(self):
        for row in ([], [(5, 5)], [(3, 4)], MIXED):
            many = size(row)
            for start, stop in ((-1, 0), (-1, -1), (0, -1), (0, many + 1), (many, many + 1), (many + 1, many + 1),
                                (1, 0), (many, many - 1), (-HUGE, HUGE), (HUGE, HUGE)):
                self.assert_refused(OutOfPlace, part, row, start, stop)
                self.assert_refused(OutOfPlace, cut_out, row, start, stop)
            for place in (-HUGE, -1, many + 1, HUGE):
                self.assert_refused(OutOfPlace, put_in, row, place, [(1, 2)])
                self.assert_refused(OutOfPlace, put_in, row, place, [])

    def test_places_at_both_ends_are_there(self):
        for row in ([], [(5, 5)], [(3, 4)], MIXED):
            many = size(row)
            for place in (0, many):
                self.assertEqual([], part(row, place, place))
                self.assertEqual(plain(row), cut_out(row, place, place))
                self.assertEqual(plain(row), put_in(row, place, []))
            self.assertEqual(plain(row), part(row, 0, many))
            self.assertEqual([], cut_out(row, 0, many))

    def test_long_stretches(self):
        row = [(0, BIG), (3, HUGE)]
        self.assertEqual([(BIG - 1, BIG), (3, 4)], part(row, BIG - 1, BIG + 1))
        self.assertEqual([(0, BIG - 1), (4, HUGE)], cut_out(row, BIG - 1, BIG + 1))
        self.assertEqual([(0, BIG), (7, 9), (3, HUGE)], put_in(row, BIG, [(7, 9)]))
        self.assertEqual([(0, HUGE)], put_in([(0, 2), (BIG, HUGE)], 2, [(2, BIG)]))
        self.assertEqual([(0, BIG), (3, HUGE + 1)], joined(row, [(HUGE, HUGE + 1)]))
        self.assert_refused(OutOfPlace, part, row, 0, BIG + HUGE - 2)
        self.assert_refused(OutOfPlace, cut_out, row, BIG + HUGE - 2, BIG + HUGE - 2)
        self.assert_refused(OutOfPlace, put_in, row, BIG + HUGE - 2, [])

    def test_small_rows_made_long(self):
        for row in small_rows(2, 3):
            long, many = scaled(row, BIG), size(row)
            self.assertEqual(scaled(plain(row), BIG), plain(long))
            self.assertEqual(many * BIG, size(long))
            for place in range(many + 1):
                self.assertEqual(scaled(part(row, place, many), BIG), part(long, place * BIG, many * BIG))
                self.assertEqual(scaled(cut_out(row, 0, place), BIG), cut_out(long, 0, place * BIG))
                self.assertEqual(scaled(put_in(row, place, MIXED), BIG),
                                 put_in(long, place * BIG, scaled(MIXED, BIG)))


class Lists(Case):
    def test_addresses(self):
        self.assertEqual([], addresses([]))
        self.assertEqual([], addresses([(3, 3)]))
        self.assertEqual([4, 5, 6, 7, 8, 0, 1, 2, 4, 4], addresses(MIXED))
        self.assertEqual([BIG, BIG + 1, HUGE - 1], addresses([(BIG, BIG + 2), (HUGE - 1, HUGE)]))
        self.assertEqual(list(range(2000)), addresses([(0, 1200), (1200, 2000)]))

    def test_drawn(self):
        self.assertEqual([], drawn([]))
        self.assertEqual([(4, 7), (4, 5), (4, 5), (3, 4)], drawn([4, 5, 6, 4, 4, 3]))
        self.assertEqual([(BIG, BIG + 2), (0, 1)], drawn([BIG, BIG + 1, 0]))

    def test_drawn_tells_the_addresses_of_all_small_rows(self):
        for row in small_rows(3, 3):
            self.assertEqual(listed(row), addresses(row))
            self.assertEqual(plain(row), drawn(listed(row)))

    def test_places(self):
        self.assertEqual([0, 8, 9], places(MIXED, 4))
        self.assertEqual([], places(MIXED, 3))
        self.assertEqual([], places(MIXED, -1))
        self.assertEqual([], places([], 0))
        self.assertEqual([], places([(2, 2)], 2))

    def test_places_of_all_small_rows(self):
        for row in small_rows(3, 2):
            told = listed(row)
            for address in range(-1, 4):
                self.assertEqual([place for place, one in enumerate(told) if one == address], places(row, address))

    def test_places_in_long_stretches(self):
        row = [(0, BIG), (9, HUGE), (4, 5)]
        self.assertEqual([4, BIG + HUGE - 9], places(row, 4))
        self.assertEqual([BIG - 1, 2 * BIG - 10], places(row, BIG - 1))
        self.assertEqual([], places(row, HUGE))


class AsSets(Case):
    def test_meets(self):
        self.assertIs(True, meets([(0, 3), (8, 9)], [(5, 6), (8, 20)]))
        self.assertIs(False, meets([(0, 3), (8, 9)], [(3, 8), (9, 10)]))
        self.assertIs(False, meets([], []))
        self.assertIs(False, meets([(1, 4)], []))
        self.assertIs(False, meets([(1, 4)], [(2, 2)]))
        self.assertIs(False, meets([(1, 4), (1, 4)], [(5, 6), (5, 6)]))

    def test_without(self):
        self.assertEqual([(4, 5), (6, 9), (0, 1), (4, 5), (4, 5)], without(MIXED, [(5, 6), (1, 3), (5, 6)]))
        self.assertEqual([(1, 6)], without([(1, 3), (9, 10), (3, 6)], [(9, 10)]))
        self.assertEqual([(1, 3)], without([(1, 2), (2, 3)], [(2, 2)]))
        self.assertEqual([], without([], [(2, 3)]))
        self.assertEqual([], without(MIXED, MIXED))
        self.assertEqual([(1, 3), (9, 10)], without([(0, 10)], [(4, 5), (3, 9), (0, 1)]))
        self.assertEqual(plain(MIXED), without(MIXED, []))

    def test_spread(self):
        self.assertEqual([], spread([]))
        self.assertEqual([], spread([(3, 3), (1, 1)]))
        self.assertEqual([(0, 3), (4, 9)], spread(MIXED))
        self.assertEqual([(1, 9)], spread([(5, 9), (1, 5)]))
        self.assertEqual([(1, 9)], spread([(1, 9), (2, 3), (4, 4)]))
        self.assertEqual([(1, 2), (3, 4)], spread([(3, 4), (1, 2), (2, 2)]))
        self.assertEqual([(0, 1), (3, 9)], spread([(4, 5), (3, 9), (0, 1)]))

    def test_all_small_rows(self):
        for row in small_rows(2, 3):
            self.assertEqual(drawn(sorted(set(listed(row)))), spread(row))
            for other in small_rows(2, 3):
                had = set(listed(other))
                kept = [address for address in listed(row) if address not in had]
                self.assertIs(kept != listed(row), meets(row, other))
                self.assertEqual(drawn(kept), without(row, other))

    def test_spread_of_three_stretches(self):
        for row in small_rows(3, 3):
            self.assertEqual(drawn(sorted(set(listed(row)))), spread(row))

    def test_rows_of_many_stretches(self):
        row = [(7 * k % 2000, 7 * k % 2000 + 5) for k in range(700)]
        other = [(3 * k, 3 * k + 1) for k in range(650, 20, -1)]
        had = set(listed(other))
        self.assertEqual(drawn([address for address in listed(row) if address not in had]), without(row, other))
        self.assertEqual(drawn(sorted(set(listed(row)))), spread(row))
        self.assertIs(True, meets(row, other))

    def test_long_stretches(self):
        self.assertIs(True, meets([(0, BIG)], [(BIG - 1, HUGE)]))
        self.assertIs(False, meets([(0, BIG)], [(BIG, HUGE)]))
        self.assertEqual([(0, 5), (6, BIG), (HUGE - 1, HUGE)], without([(0, HUGE)], [(BIG, HUGE - 1), (5, 6)]))
        self.assertEqual([(0, HUGE)], spread([(BIG, HUGE), (4, BIG), (0, 7)]))
        self.assertEqual([(0, BIG), (BIG + 1, HUGE)], spread([(BIG + 1, HUGE), (0, BIG)]))
        for row in small_rows(2, 2):
            self.assertEqual(scaled(spread(row), BIG), spread(scaled(row, BIG)))
            for other in small_rows(2, 2):
                self.assertEqual(meets(row, other), meets(scaled(row, BIG), scaled(other, BIG)))
                self.assertEqual(scaled(without(row, other), BIG), without(scaled(row, BIG), scaled(other, BIG)))


class NothingIsShared(Case):
    def calls(self):
        for row in ([], [(1, 2)], [(1, 4), (6, 9)], [(6, 9), (1, 4), (4, 4)], list(MIXED)):
            for other in ([], [(20, 30)], [(2, 3), (3, 3), (3, 5)]):
                many = size(row)
                yield from (
                    (plain, row), (size, row), (part, row, 0, many), (part, row, 0, 0), (joined, row, other),
                    (joined, other, row), (put_in, row, 0, other), (put_in, row, many, other),
                    (cut_out, row, 0, 0), (cut_out, row, 0, many), (addresses, row), (drawn, listed(row)),
                    (places, row, 2), (meets, row, other), (without, row, other), (without, other, row),
                    (spread, row), (put_in, other, 0, row),
                )
                if many:
                    yield at, row, 0

    def test_what_is_handed_in_and_told_is_apart(self):
        for doing, *given in self.calls():
            with self.subTest(doing=doing.__name__, given=given):
                copies = [list(thing) if isinstance(thing, list) else thing for thing in given]
                self.assert_apart(doing, *copies)

    def test_one_row_handed_in_twice(self):
        for doing in (joined, meets, without):
            row = list(MIXED)
            doing(row, row)
            self.assertEqual(MIXED, row)
        row = list(MIXED)
        put_in(row, 4, row)
        self.assertEqual(MIXED, row)

    def test_a_refused_call_changes_nothing(self):
        row, other = list(MIXED), [(1, 2)]
        self.assert_refused(OutOfPlace, at, row, 10)
        self.assert_refused(OutOfPlace, part, row, 0, 11)
        self.assert_refused(OutOfPlace, cut_out, row, 3, 2)
        self.assert_refused(OutOfPlace, put_in, row, -1, other)
        self.assertEqual((MIXED, [(1, 2)]), (row, other))


if __name__ == "__main__":
    unittest.main()
