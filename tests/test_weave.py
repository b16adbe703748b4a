"""Points [1], [8], [9] and [10] for what sheets show, weigh and look upon."""

import itertools
import unittest

from inkroot.spans import drawn
from inkroot.weave import above, ring, shown, weight
from tests.helpers import Case, chain, sheet_shows

BIG = 10 ** 30
HUGE = 10 ** 60 - 1
# Sheet 0 looks upon 1 and 3, sheet 1 twice upon 2; sheets 3 and 5 show nothing; nobody looks upon 4.
HOUSE = [
    [("ink", 7, 9), ("win", 1), ("win", 3), ("ink", 4, 6)],
    [("win", 2), ("ink", 0, 1), ("win", 2)],
    [("ink", 9, 12), ("win", 3), ("ink", 12, 13)],
    [],
    [("win", 5), ("win", 0)],
    [("win", 3), ("win", 3)],
]


def sheet_weighs(rows, sheet):
    total = 0
    for item in rows[sheet]:
        total += item[2] - item[1] if item[0] == "ink" else 1 + sheet_weighs(rows, item[1])
    return total


def looked_upon(rows, sheet):
    """All sheets that are reached from a sheet by a step or more."""
    told = set()
    for many in range(len(rows) + 1):
        for number in [sheet, *told]:
            told |= {item[1] for item in rows[number] if item[0] == "win"}
    return told


def layered():
    """Many small houses of three sheets, with windows upon later sheets alone."""
    last = [[], [("ink", 0, 2)], [("ink", 2, 3), ("ink", 0, 1)]]
    middle = [[], [("ink", 2, 4)], [("win", 2)], [("win", 2), ("win", 2)], [("ink", 5, 6), ("win", 2)]]
    first = [
        list(row) for many in range(4)
        for row in itertools.product([("ink", 1, 3), ("ink", 3, 4), ("win", 1), ("win", 2)], repeat=many)
        if (("ink", 1, 3), ("ink", 3, 4)) not in zip(row, row[1:])
    ]
    return [list(rows) for rows in itertools.product(first, middle, last)]


class Shown(Case):
    def test_what_the_house_shows(self):
        self.assertEqual([(7, 13), (0, 1), (9, 13), (4, 6)], shown(HOUSE, 0))
        self.assertEqual([(9, 13), (0, 1), (9, 13)], shown(HOUSE, 1))
        self.assertEqual([(9, 13)], shown(HOUSE, 2))
        self.assertEqual([(7, 13), (0, 1), (9, 13), (4, 6)], shown(HOUSE, 4))

    def test_sheets_that_show_nothing(self):
        self.assertEqual([], shown([[]], 0))
        self.assertEqual([], shown(HOUSE, 3))
        self.assertEqual([], shown(HOUSE, 5))

    def test_the_row_is_plain_over_the_windows_edges(self):
        rows = [[("ink", 0, 3), ("win", 1), ("win", 2), ("ink", 6, 8)], [("ink", 3, 6)], []]
        self.assertEqual([(0, 8)], shown(rows, 0))
        self.assertEqual([(3, 6), (3, 6)], shown([[("win", 1), ("win", 1)], [("ink", 3, 6)]], 0))

    def test_a_window_shows_what_its_sheet_shows_now(self):
        rows = [[("win", 1)], [("ink", 3, 6)]]
        self.assertEqual([(3, 6)], shown(rows, 0))
        rows[1] = [("ink", 8, 9), ("ink", 1, 2)]
        self.assertEqual([(8, 9), (1, 2)], shown(rows, 0))

    def test_a_window_upon_a_sheet_with_windows(self):
        rows = [[("ink", 1, 2)], [("win", 0), ("ink", 5, 6)], [("win", 1), ("win", 0)]]
        self.assertEqual([(1, 2), (5, 6), (1, 2)], shown(rows, 2))

    def test_a_chain_of_forty_sheets(self):
        rows = chain(40, [("ink", 4, 9), ("ink", 1, 2)])
        for sheet in range(40):
            self.assertEqual([(4, 9), (1, 2)], shown(rows, sheet))
        turned = [[("ink", 4, 9)]] + [[("win", number), ("ink", 0, 1)] for number in range(39)]
        self.assertEqual([(4, 9)] + [(0, 1)] * 39, shown(turned, 39))

    def test_a_chain_somewhat_longer(self):
        self.assertEqual([(4, 9)], shown(chain(400, [("ink", 4, 9)]), 0))

    def test_long_quotes(self):
        rows = [[("ink", 5, BIG), ("win", 1)], [("ink", BIG, HUGE), ("ink", 0, BIG)]]
        self.assertEqual([(5, HUGE), (0, BIG)], shown(rows, 0))

    def test_stretches_that_are_told_are_tuples(self):
        told = shown(HOUSE, 0)
        self.assertIs(list, type(told))
        self.assertEqual([tuple] * 4, [type(stretch) for stretch in told])

    def test_small_sheets(self):
        for rows in layered():
            for sheet in range(3):
                self.assertEqual(drawn(sheet_shows(rows, sheet)), shown(rows, sheet), rows)


class Weight(Case):
    def test_what_the_house_weighs(self):
        self.assertEqual([19, 13, 5, 0, 23, 2], [weight(HOUSE, sheet) for sheet in range(6)])

    def test_a_sheet_without_items(self):
        self.assertEqual(0, weight([[]], 0))

    def test_a_window_upon_nothing_counts_one(self):
        self.assertEqual(1, weight([[("win", 1)], []], 0))
        self.assertEqual(2, weight([[("win", 1), ("win", 1)], []], 0))
        self.assertEqual(3, weight([[("win", 1)], [("win", 2), ("win", 2)], []], 0))

    def test_a_fixed_quote_counts_its_signs(self):
        self.assertEqual(3 + 4 + 3, weight([[("ink", 2, 5), ("ink", 0, 4), ("ink", 2, 5)]], 0))

    def test_the_same_window_twice_counts_twice(self):
        self.assertEqual(8, weight([[("win", 1), ("win", 1)], [("ink", 4, 7)]], 0))

    def test_a_chain_of_forty_sheets(self):
        rows = chain(40, [("ink", 4, 9)])
        self.assertEqual([5 + 39 - sheet for sheet in range(40)], [weight(rows, sheet) for sheet in range(40)])
        self.assertEqual(39, weight(chain(40, []), 0))
        self.assertEqual(399, weight(chain(400, []), 0))

    def test_windows_twice_in_each_sheet_of_a_chain(self):
        rows = [[("win", number + 1), ("win", number + 1)] for number in range(9)] + [[("ink", 3, 4)]]
        self.assertEqual(512 + 1022, weight(rows, 0))
        self.assertEqual([(3, 4)] * 512, shown(rows, 0))

    def test_as_heavy_as_may_be(self):
        rows = [[("win", 1)] * 1000, [("win", 2)], []]
        self.assertEqual((2000, []), (weight(rows, 0), shown(rows, 0)))
        rows = [[("win", 1)] * 1000, [("ink", 6, 7)]]
        self.assertEqual((2000, [(6, 7)] * 1000), (weight(rows, 0), shown(rows, 0)))

    def test_small_sheets(self):
        for rows in layered():
            self.assertEqual([sheet_weighs(rows, k) for k in range(3)], [weight(rows, k) for k in range(3)], rows)


class Rings(Case):
    def assert_ring(self, rows, sheet):
        told = ring(rows, sheet)
        self.assertIs(list, type(told), rows)
        self.assertEqual((sheet, sheet), (told[0], told[-1]), rows)
        self.assertGreater(len(told), 1)
        for one, other in zip(told, told[1:]):
            self.assertIn(("win", other), rows[one], rows)

    def test_a_ring_of_one_sheet(self):
        self.assertEqual([0, 0], ring([[("win", 0)]], 0))
        self.assertEqual([1, 1], ring([[], [("ink", 0, 1), ("win", 0), ("win", 1)]], 1))

    def test_a_ring_of_two_sheets(self):
        rows = [[("ink", 0, 1), ("win", 1)], [("win", 0), ("win", 2)], []]
        self.assertEqual([0, 1, 0], ring(rows, 0))
        self.assertEqual([1, 0, 1], ring(rows, 1))
        self.assertIsNone(ring(rows, 2))

    def test_a_ring_of_forty_sheets(self):
        rows = chain(40, [("ink", 2, 3), ("win", 0)])
        for sheet in range(40):
            way = [(sheet + step) % 40 for step in range(41)]
            self.assertEqual(way, ring(rows, sheet))

    def test_no_ring(self):
        for sheet in range(6):
            self.assertIsNone(ring(HOUSE, sheet))
        self.assertIsNone(ring([[]], 0))
        self.assertIsNone(ring(chain(40, []), 0))
        self.assertIsNone(ring([[("win", 1), ("win", 1)], [("win", 2), ("win", 2)], []], 0))

    def test_rings_that_the_sheet_only_leads_into(self):
        self.assertIsNone(ring([[("win", 1)], [("win", 1)]], 0))
        self.assertIsNone(ring([[("win", 1)], [("win", 2)], [("win", 1)]], 0))
        rows = chain(40, [("win", 1)])
        self.assertIsNone(ring(rows, 0))
        self.assertEqual([39] + list(range(1, 40)), ring(rows, 39))

    def test_rings_that_lead_into_the_sheet_or_are_elsewhere(self):
        self.assertIsNone(ring([[("win", 0), ("win", 1)], []], 1))
        self.assertIsNone(ring([[("win", 1)], [("win", 0)], [("ink", 0, 1)]], 2))

    def test_a_ring_behind_a_ring_without_the_sheet(self):
        rows = [[("win", 1)], [("win", 1), ("win", 2)], [("win", 1), ("win", 3)], [("win", 2), ("win", 0)]]
        self.assertEqual([0, 1, 2, 3, 0], ring(rows, 0))

    def test_several_rings(self):
        rows = [[("win", 1), ("win", 2)], [("win", 0), ("win", 2)], [("win", 1), ("win", 0)]]
        for sheet in range(3):
            self.assert_ring(rows, sheet)

    def test_all_windows_among_forty_sheets(self):
        rows = [[("win", number) for number in range(40)] for sheet in range(40)]
        for sheet in range(40):
            self.assert_ring(rows, sheet)
        rows = [[("win", number) for number in range(1, 40)] for sheet in range(40)]
        self.assertIsNone(ring(rows, 0))

    def test_all_weaves_of_three_sheets(self):
        rows_of_one = [[("win", k) for k in range(3) if chosen >> k & 1] for chosen in range(8)]
        for weave in itertools.product(rows_of_one, repeat=3):
            rows = list(weave)
            for sheet in range(3):
                if sheet in looked_upon(rows, sheet):
                    self.assert_ring(rows, sheet)
                else:
                    self.assertIsNone(ring(rows, sheet))


class Above(Case):
    def test_in_the_house(self):
        self.assertEqual([[4], [0, 4], [0, 1, 4], [0, 1, 2, 4, 5], [], [4]], [above(HOUSE, k) for k in range(6)])

    def test_a_sheet_alone(self):
        self.assertEqual([], above([[]], 0))
        self.assertEqual([], above([[], [("ink", 0, 1)]], 0))

    def test_straight_and_by_others_is_told_once(self):
        rows = [[], [("win", 0), ("win", 0)], [("win", 1), ("win", 0)]]
        self.assertEqual([1, 2], above(rows, 0))
        self.assertEqual([2], above(rows, 1))

    def test_the_list_rises_whatever_the_way(self):
        self.assertEqual([0, 1, 2], above([[("win", 2)], [("win", 0)], [("win", 3)], []], 3))

    def test_a_chain_of_forty_sheets(self):
        rows = chain(40, [])
        for sheet in range(40):
            self.assertEqual(list(range(sheet)), above(rows, sheet))

    def test_all_weaves_of_four_sheets_without_a_ring(self):
        choices = [[[("win", k) for k in range(sheet) if chosen >> k & 1] for chosen in range(2 ** sheet)]
                   for sheet in range(4)]
        for weave in itertools.product(*choices):
            for rows in (list(weave), [[("win", 3 - number) for kind, number in items] for items in weave[::-1]]):
                for sheet in range(4):
                    told = [k for k in range(4) if k != sheet and sheet in looked_upon(rows, k)]
                    self.assertEqual(told, above(rows, sheet), rows)


class NothingIsShared(Case):
    def test_what_is_handed_in_and_told_is_apart(self):
        for doing in (shown, weight, ring, above):
            for sheet in range(6):
                self.assert_apart(doing, [list(items) for items in HOUSE], sheet)
        for rows in ([[("win", 0)]], [[("win", 1)], [("win", 2), ("win", 0)], []]):
            for sheet in range(len(rows)):
                self.assert_apart(ring, [list(items) for items in rows], sheet)

    def test_two_answers_share_no_list(self):
        one, other = shown(HOUSE, 1), shown(HOUSE, 1)
        one.clear()
        self.assertEqual([(9, 13), (0, 1), (9, 13)], other)
        self.assertEqual([(9, 13), (0, 1), (9, 13)], shown(HOUSE, 1))


if __name__ == "__main__":
    unittest.main()
