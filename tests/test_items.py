"""Points [1], [8], [11] and [16] for a sheet's own row of items."""

import copy
import itertools
import unittest

from inkroot.errors import OutOfPlace
from inkroot.items import (
    cut_items, fixed_items, inked, moved_items, plain_items, put_items, struck_items,
)
from inkroot.spans import drawn
from inkroot.weave import shown
from tests.helpers import Case, chain, item_shows, listed, quoted, sheet_shows, small_rows, spoil

BIG = 10 ** 30
HUGE = 10 ** 60 - 1
# Upon sheet 1 a window shows nothing, upon 2 the signs 20 to 23, upon 3 the signs 30, 20 to 23, 31.
EMPTY, FOUR, SIX = ("win", 1), ("win", 2), ("win", 3)
OTHERS = [[], [("ink", 20, 24)], [("ink", 30, 31), ("win", 2), ("win", 1), ("ink", 31, 32)]]
PUT = [("ink", 50, 52), EMPTY]


def house(*items):
    """Sheets of which the first has these items."""
    return [list(items)] + [list(row) for row in OTHERS]


def ink(start, stop):
    return ("ink", start, stop)


def one_form(items):
    """The items with each run of fixed quotes as the list of its addresses: the same for all forms of the same items."""
    told = []
    for item in items:
        if item[0] == "win":
            told.append(item)
        elif told and isinstance(told[-1], list):
            told[-1] += range(item[1], item[2])
        else:
            told.append(list(range(item[1], item[2])))
    return told


def by_places(rows, items):
    """The items, each with its list of addresses and its first and last place."""
    told, first = [], 0
    for item in items:
        signs = item_shows(rows, item)
        told.append((item, signs, first, first + len(signs)))
        first += len(signs)
    return told


def put_by_words(rows, items, place, others):
    """A put as the document words it, over lists of addresses."""
    ahead, behind = [], []
    for item, signs, first, last in by_places(rows, items):
        if first < place < last:
            ahead += quoted(signs[:place - first])
            behind += quoted(signs[place - first:])
        elif last <= place:
            ahead.append(item)
        else:
            behind.append(item)
    return ahead + others + behind if others else list(items)


def cut_by_words(rows, items, start, stop):
    """What a cut leaves and what it takes, as the document words it, over lists of addresses."""
    left, taken = [], []
    for item, signs, first, last in by_places(rows, items):
        between = [sign for place, sign in enumerate(signs, start=first) if start <= place < stop]
        rest = [sign for place, sign in enumerate(signs, start=first) if not start <= place < stop]
        if last <= start or first >= stop:
            left.append(item)
        elif rest:
            left += quoted(rest)
            taken += quoted(between)
        else:
            taken.append(item)
    return (left, taken) if start < stop else (list(items), [])


def small_houses():
    """All houses whose first sheet has at most three of these items."""
    pool = [ink(0, 1), ink(1, 3), EMPTY, FOUR, ink(22, 24)]
    for many in range(4):
        for items in itertools.product(pool, repeat=many):
            if (ink(0, 1), ink(1, 3)) not in zip(items, items[1:]):
                yield house(*items)


class ItemCase(Case):
    def assert_items(self, expected, told, about=None):
        """The told items are plain ones, and the plain form of what is expected."""
        self.assertIs(list, type(told))
        self.assertEqual([tuple] * len(told), [type(item) for item in told])
        self.assertEqual(one_form(expected), one_form(told), about)
        for item in told:
            self.assertTrue(item[0] == "win" or item[1] < item[2], about)
        for one, other in zip(told, told[1:]):
            self.assertFalse(one[0] == other[0] == "ink" and one[2] == other[1], about)


class PlainItems(ItemCase):
    def test_quotes_side_by_side_become_one(self):
        self.assertEqual([ink(1, 9)], plain_items([ink(1, 3), ink(3, 4), ink(4, 9)]))
        self.assertEqual([FOUR, ink(1, 4), FOUR], plain_items([FOUR, ink(1, 2), ink(2, 4), FOUR]))

    def test_other_items_stay(self):
        for items in ([], [EMPTY], [FOUR, FOUR], [ink(3, 5), ink(1, 3)], [ink(1, 3), ink(1, 3)],
                      [ink(1, 3), ink(4, 5)], [ink(1, 3), ink(2, 5)], [ink(1, 3), FOUR, ink(3, 5)],
                      [ink(1, 3), EMPTY, ink(3, 5)], [("win", 3), ("win", 3), ink(3, 4)], [ink(0, 2), ("win", 2)]):
            self.assertEqual(items, plain_items(items))

    def test_long_quotes(self):
        self.assertEqual([ink(0, HUGE), FOUR], plain_items([ink(0, BIG), ink(BIG, HUGE), FOUR]))

    def test_small_items(self):
        pool = [ink(0, 1), ink(1, 2), ink(2, 4), ink(0, 2), ("win", 1), ("win", 2)]
        for many in range(5):
            for items in itertools.product(pool, repeat=many):
                told = plain_items(list(items))
                self.assert_items(items, told)
                self.assertEqual(told, plain_items(told))


class Inked(ItemCase):
    def test_rows(self):
        self.assertEqual([], inked([]))
        self.assertEqual([], inked([(3, 3), (0, 0)]))
        self.assertEqual([ink(4, 9), ink(4, 5)], inked([(2, 2), (4, 6), (6, 6), (6, 9), (4, 5)]))
        self.assertEqual([ink(3, 5), ink(1, 3)], inked([(3, 5), (1, 3)]))
        self.assertEqual([ink(0, HUGE)], inked([(0, BIG), (BIG, HUGE)]))

    def test_all_small_rows(self):
        for row in small_rows(3, 3):
            self.assert_items(quoted(listed(row)), inked(row))


class Put(ItemCase):
    def test_in_a_sheet_without_items(self):
        self.assertEqual([ink(50, 52), EMPTY], put_items(house(), 0, 0, PUT))
        self.assertEqual([], put_items(house(), 0, 0, []))

    def test_at_both_ends(self):
        rows = house(ink(0, 3), FOUR)
        self.assertEqual([ink(50, 52), EMPTY, ink(0, 3), FOUR], put_items(rows, 0, 0, PUT))
        self.assertEqual([ink(0, 3), FOUR, ink(50, 52), EMPTY], put_items(rows, 0, 7, PUT))

    def test_between_two_items(self):
        self.assertEqual([ink(0, 3), ink(50, 52), EMPTY, FOUR], put_items(house(ink(0, 3), FOUR), 0, 3, PUT))
        self.assertEqual([FOUR, ink(50, 52), EMPTY, SIX], put_items(house(FOUR, SIX), 0, 4, PUT))

    def test_within_a_fixed_quote(self):
        self.assertEqual([ink(0, 1), ink(50, 52), EMPTY, ink(1, 3)], put_items(house(ink(0, 3)), 0, 1, PUT))
        self.assertEqual([ink(0, 2), ink(50, 52), EMPTY, ink(2, 3)], put_items(house(ink(0, 3)), 0, 2, PUT))

    def test_within_a_window(self):
        self.assertEqual([ink(20, 21), ink(50, 52), EMPTY, ink(21, 24)], put_items(house(FOUR), 0, 1, PUT))
        self.assertEqual(
            [FOUR, ink(30, 31), ink(20, 22), ink(50, 52), EMPTY, ink(22, 24), ink(31, 32), FOUR],
            put_items(house(FOUR, SIX, FOUR), 0, 7, PUT),
        )

    def test_what_shows_nothing_at_the_place_stays_ahead(self):
        told = [EMPTY, EMPTY, ink(50, 52), ink(0, 1)]
        self.assertEqual(told, put_items(house(EMPTY, EMPTY, ink(0, 1)), 0, 0, [ink(50, 52)]))
        told = [ink(0, 1), EMPTY, ink(50, 52), FOUR]
        self.assertEqual(told, put_items(house(ink(0, 1), EMPTY, FOUR), 0, 1, [ink(50, 52)]))
        told = [ink(0, 1), EMPTY, ink(50, 52)]
        self.assertEqual(told, put_items(house(ink(0, 1), EMPTY), 0, 1, [ink(50, 52)]))
        self.assertEqual([EMPTY, ink(50, 52)], put_items(house(EMPTY), 0, 0, [ink(50, 52)]))

    def test_what_shows_nothing_ahead_of_the_place_and_behind_it_stays_there(self):
        rows = house(EMPTY, ink(0, 2), EMPTY, ink(5, 7), EMPTY)
        told = [EMPTY, ink(0, 2), EMPTY, ink(5, 6), ink(50, 52), ink(6, 7), EMPTY]
        self.assertEqual(told, put_items(rows, 0, 3, [ink(50, 52)]))
        told = [EMPTY, ink(0, 1), ink(50, 52), ink(1, 2), EMPTY, ink(5, 7), EMPTY]
        self.assertEqual(told, put_items(rows, 0, 1, [ink(50, 52)]))

    def test_nothing_put_breaks_no_window(self):
        rows = house(EMPTY, FOUR, ink(0, 3), SIX, EMPTY)
        for place in range(14):
            self.assertEqual(rows[0], put_items(rows, 0, place, []))

    def test_a_window_that_shows_nothing_is_put_all_the_same(self):
        self.assertEqual([ink(20, 22), EMPTY, ink(22, 24)], put_items(house(FOUR), 0, 2, [EMPTY]))
        self.assertEqual([ink(0, 1), EMPTY, ink(1, 3)], put_items(house(ink(0, 3)), 0, 1, [EMPTY]))

    def test_what_is_put_joins_its_neighbours(self):
        self.assertEqual([ink(0, 9)], put_items(house(ink(0, 3), ink(6, 9)), 0, 3, [ink(3, 4), ink(4, 6)]))
        self.assertEqual([ink(0, 3), FOUR, ink(3, 6)], put_items(house(ink(0, 3), FOUR), 0, 7, [ink(3, 6)]))
        self.assertEqual([ink(20, 22), ink(20, 24), ink(22, 24)], put_items(house(FOUR), 0, 2, [ink(20, 24)]))

    def test_in_another_sheet(self):
        rows = house(SIX)
        told = [ink(30, 31), ink(50, 51), FOUR, EMPTY, ink(31, 32)]
        self.assertEqual(told, put_items(rows, 3, 1, [ink(50, 51)]))
        self.assertEqual([ink(50, 51)], put_items(rows, 1, 0, [ink(50, 51)]))

    def test_what_is_put_may_be_a_window_that_would_make_a_ring(self):
        self.assertEqual([("win", 0), ink(20, 24)], put_items(house(FOUR), 2, 0, [("win", 0)]))

    def test_places_that_are_not_there(self):
        for rows, many in ((house(), 0), (house(EMPTY), 0), (house(ink(0, 3)), 3), (house(SIX, EMPTY, FOUR), 10)):
            for place in (-HUGE, -1, many + 1, HUGE):
                for items in ([], [ink(50, 52)], [EMPTY]):
                    self.assert_refused(OutOfPlace, put_items, rows, 0, place, items)
            put_items(rows, 0, 0, PUT)
            put_items(rows, 0, many, PUT)

    def test_small_houses(self):
        for rows in small_houses():
            for place in range(len(sheet_shows(rows, 0)) + 1):
                for items in ([], [ink(1, 3)], [EMPTY], [FOUR, ink(0, 1), ink(1, 3)]):
                    told = put_items(rows, 0, place, items)
                    self.assert_items(put_by_words(rows, rows[0], place, items), told, (rows[0], place, items))


class Cut(ItemCase):
    def test_items_that_go_whole(self):
        rows = house(ink(0, 3), FOUR, ink(7, 9))
        self.assertEqual([FOUR, ink(7, 9)], cut_items(rows, 0, 0, 3))
        self.assertEqual([ink(0, 3), ink(7, 9)], cut_items(rows, 0, 3, 7))
        self.assertEqual([ink(0, 3), FOUR], cut_items(rows, 0, 7, 9))

    def test_items_that_go_in_part(self):
        rows = house(ink(0, 3), FOUR, ink(7, 9))
        self.assertEqual([ink(0, 1), FOUR, ink(7, 9)], cut_items(rows, 0, 1, 3))
        self.assertEqual([ink(0, 3), ink(20, 21), ink(23, 24), ink(7, 9)], cut_items(rows, 0, 4, 6))
        self.assertEqual([ink(0, 2), ink(8, 9)], cut_items(rows, 0, 2, 8))
        self.assertEqual([ink(0, 2), ink(22, 24), ink(7, 9)], cut_items(rows, 0, 2, 5))

    def test_within_one_item(self):
        self.assertEqual([ink(0, 4), ink(5, 9)], cut_items(house(ink(0, 9)), 0, 4, 5))
        self.assertEqual([ink(30, 31), ink(23, 24), ink(31, 32)], cut_items(house(SIX), 0, 1, 4))
        self.assertEqual([ink(20, 24), ink(31, 32)], cut_items(house(SIX), 0, 0, 1))
        self.assertEqual([ink(30, 31), ink(20, 24)], cut_items(house(SIX), 0, 5, 6))

    def test_a_cut_of_all(self):
        self.assertEqual([], cut_items(house(ink(0, 3), EMPTY, FOUR), 0, 0, 7))
        self.assertEqual([], cut_items(house(SIX), 0, 0, 6))
        self.assertEqual([EMPTY, EMPTY], cut_items(house(EMPTY, ink(0, 3), EMPTY, FOUR, EMPTY), 0, 0, 7))

    def test_what_shows_nothing_goes_where_it_stands_strictly_between(self):
        rows = house(ink(0, 2), EMPTY, ink(5, 7))
        self.assertEqual([ink(0, 1), ink(6, 7)], cut_items(rows, 0, 1, 3))
        self.assertEqual([ink(0, 1), EMPTY, ink(5, 7)], cut_items(rows, 0, 1, 2))
        self.assertEqual([ink(0, 2), EMPTY, ink(6, 7)], cut_items(rows, 0, 2, 3))
        self.assertEqual([EMPTY, ink(5, 7)], cut_items(rows, 0, 0, 2))
        self.assertEqual([ink(0, 2), EMPTY], cut_items(rows, 0, 2, 4))

    def test_what_shows_nothing_at_both_edges_stays(self):
        rows = house(ink(0, 2), EMPTY, FOUR, EMPTY, EMPTY, ink(5, 7))
        self.assertEqual([ink(0, 2), EMPTY, EMPTY, EMPTY, ink(5, 7)], cut_items(rows, 0, 2, 6))

    def test_the_same_start_and_stop_breaks_no_window(self):
        rows = house(EMPTY, FOUR, ink(0, 3), EMPTY, SIX)
        for place in range(14):
            self.assertEqual(rows[0], cut_items(rows, 0, place, place))
        self.assertEqual([], cut_items(house(), 0, 0, 0))

    def test_what_is_left_joins(self):
        self.assertEqual([ink(0, 9)], cut_items(house(ink(0, 3), ink(20, 24), ink(3, 9)), 0, 3, 7))
        self.assertEqual([ink(0, 9)], cut_items(house(ink(0, 3), FOUR, ink(3, 9)), 0, 3, 7))
        self.assertEqual([ink(18, 21)], cut_items(house(ink(18, 20), FOUR), 0, 3, 6))

    def test_in_another_sheet(self):
        self.assertEqual([ink(22, 24), EMPTY, ink(31, 32)], cut_items(house(SIX), 3, 0, 3))
        self.assertEqual([ink(20, 21), ink(23, 24)], cut_items(house(SIX), 2, 1, 3))

    def test_places_that_are_not_there(self):
        for rows, many in ((house(), 0), (house(EMPTY), 0), (house(ink(0, 3)), 3), (house(SIX, EMPTY, FOUR), 10)):
            for start, stop in ((-1, 0), (-1, -1), (0, -1), (0, many + 1), (many, many + 1), (many + 1, many + 1),
                                (1, 0), (many, many - 1), (-HUGE, HUGE), (HUGE, HUGE), (HUGE, -HUGE)):
                self.assert_refused(OutOfPlace, cut_items, rows, 0, start, stop)
            cut_items(rows, 0, 0, many)

    def test_small_houses(self):
        for rows in small_houses():
            many = len(sheet_shows(rows, 0))
            for start in range(many + 1):
                for stop in range(start, many + 1):
                    left = cut_by_words(rows, rows[0], start, stop)[0]
                    self.assert_items(left, cut_items(rows, 0, start, stop), (rows[0], start, stop))


class Move(ItemCase):
    def test_whole_items(self):
        rows = house(ink(0, 3), FOUR, SIX)
        self.assertEqual([FOUR, ink(0, 3), SIX], moved_items(rows, 0, 0, 3, 4))
        self.assertEqual([FOUR, ink(0, 3), SIX], moved_items(rows, 0, 3, 7, 0))
        self.assertEqual([ink(0, 3), SIX, FOUR], moved_items(rows, 0, 3, 7, 9))
        self.assertEqual([FOUR, SIX, ink(0, 3)], moved_items(rows, 0, 3, 13, 0))

    def test_parts_of_items(self):
        rows = house(ink(0, 3), FOUR)
        self.assertEqual([ink(2, 3), ink(20, 21), ink(0, 2), ink(21, 24)], moved_items(rows, 0, 2, 4, 0))
        self.assertEqual([ink(20, 22), ink(0, 3), ink(22, 24)], moved_items(rows, 0, 3, 5, 0))
        self.assertEqual([ink(0, 1), ink(2, 3), FOUR, ink(1, 2)], moved_items(rows, 0, 1, 2, 6))

    def test_whole_windows_between_parts(self):
        rows = house(ink(0, 3), FOUR, EMPTY, SIX, ink(7, 9))
        self.assertEqual(
            [ink(2, 3), FOUR, EMPTY, ink(30, 31), ink(0, 2), ink(20, 24), ink(31, 32), ink(7, 9)],
            moved_items(rows, 0, 2, 8, 0),
        )

    def test_a_place_within_what_is_left(self):
        rows = house(ink(0, 3), SIX, FOUR)
        self.assertEqual([ink(0, 1), FOUR, ink(1, 3), SIX], moved_items(rows, 0, 9, 13, 1))
        self.assertEqual(
            [ink(0, 3), ink(30, 31), ink(20, 21), FOUR, ink(21, 24), ink(31, 32)], moved_items(rows, 0, 9, 13, 5)
        )

    def test_onto_its_own_place(self):
        rows = house(ink(0, 3), FOUR, SIX)
        self.assertEqual(rows[0], moved_items(rows, 0, 3, 7, 3))
        self.assertEqual(rows[0], moved_items(rows, 0, 0, 13, 0))
        self.assertEqual(rows[0], moved_items(rows, 0, 1, 2, 1))
        self.assertEqual([ink(0, 3), ink(20, 24), SIX], moved_items(rows, 0, 4, 5, 4))

    def test_what_shows_nothing_at_the_seam_lies_ahead(self):
        rows = house(ink(0, 2), EMPTY, FOUR, ("win", 4), ink(5, 7))
        rows.append([])
        self.assertEqual([ink(0, 2), EMPTY, ("win", 4), FOUR, ink(5, 7)], moved_items(rows, 0, 2, 6, 2))
        self.assertEqual([FOUR, ink(0, 2), EMPTY, ("win", 4), ink(5, 7)], moved_items(rows, 0, 2, 6, 0))
        self.assertEqual([ink(0, 2), EMPTY, ("win", 4), ink(5, 7), FOUR], moved_items(rows, 0, 2, 6, 4))

    def test_all_is_moved_behind_what_shows_nothing_at_the_ends(self):
        rows = house(EMPTY, ink(0, 2), EMPTY, FOUR, ("win", 4))
        rows.append([])
        self.assertEqual([EMPTY, ("win", 4), ink(0, 2), EMPTY, FOUR], moved_items(rows, 0, 0, 6, 0))

    def test_what_shows_nothing_strictly_between_goes_along(self):
        rows = house(ink(0, 2), EMPTY, ink(5, 7), ink(9, 11))
        self.assertEqual([ink(0, 1), ink(6, 7), ink(9, 11), ink(1, 2), EMPTY, ink(5, 6)],
                         moved_items(rows, 0, 1, 3, 4))

    def test_the_same_start_and_stop_breaks_no_window(self):
        rows = house(EMPTY, FOUR, ink(0, 3), EMPTY, SIX)
        for place, to in itertools.product(range(14), repeat=2):
            self.assertEqual(rows[0], moved_items(rows, 0, place, place, to))
        self.assertEqual([], moved_items(house(), 0, 0, 0, 0))

    def test_what_is_moved_joins(self):
        self.assertEqual([ink(0, 9)], moved_items(house(ink(5, 9), ink(0, 5)), 0, 0, 4, 5))
        self.assertEqual([ink(0, 9), FOUR], moved_items(house(ink(0, 3), FOUR, ink(3, 9)), 0, 3, 7, 9))
        self.assertEqual([FOUR, ink(0, 9)], moved_items(house(ink(0, 3), FOUR, ink(3, 9)), 0, 3, 7, 0))

    def test_in_another_sheet(self):
        self.assertEqual([EMPTY, ink(31, 32), ink(30, 31), FOUR], moved_items(house(), 3, 0, 5, 1))
        self.assertEqual([ink(30, 31), EMPTY, FOUR, ink(31, 32)], moved_items(house(), 3, 1, 5, 1))

    def test_places_that_are_not_there(self):
        for rows, many in ((house(), 0), (house(EMPTY), 0), (house(ink(0, 3)), 3), (house(SIX, EMPTY, FOUR), 10)):
            for start, stop in ((-1, 0), (-1, -1), (0, -1), (0, many + 1), (many, many + 1), (many + 1, many + 1),
                                (1, 0), (many, many - 1), (-HUGE, HUGE), (HUGE, HUGE), (HUGE, -HUGE)):
                self.assert_refused(OutOfPlace, moved_items, rows, 0, start, stop, 0)
            for start, stop in ((0, 0), (many, many), (0, many), (many // 2, many), (many // 2, many // 2)):
                rest = many - (stop - start)
                for to in (-HUGE, -1, rest + 1, HUGE):
                    self.assert_refused(OutOfPlace, moved_items, rows, 0, start, stop, to)
                moved_items(rows, 0, start, stop, 0)
                moved_items(rows, 0, start, stop, rest)

    def test_small_houses(self):
        for rows in small_houses():
            many = len(sheet_shows(rows, 0))
            for start in range(many + 1):
                for stop in range(start, many + 1):
                    left, taken = cut_by_words(rows, rows[0], start, stop)
                    for to in range(many - (stop - start) + 1):
                        told = moved_items(rows, 0, start, stop, to)
                        self.assert_items(put_by_words(rows, left, to, taken), told, (rows[0], start, stop, to))


class Shown(ItemCase):
    """What the sheet shows behind a put, a cut or a move is what it showed, by places."""

    def test_small_houses(self):
        for rows in small_houses():
            signs = sheet_shows(rows, 0)
            for start in range(len(signs) + 1):
                put = put_items(rows, 0, start, [ink(50, 52), FOUR])
                added = [50, 51, 20, 21, 22, 23]
                self.assertEqual(drawn(signs[:start] + added + signs[start:]), shown([put] + rows[1:], 0))
                for stop in range(start, len(signs) + 1):
                    rest = signs[:start] + signs[stop:]
                    self.assertEqual(drawn(rest), shown([cut_items(rows, 0, start, stop)] + rows[1:], 0))
                    for to in range(0, len(rest) + 1, 3):
                        moved = rest[:to] + signs[start:stop] + rest[to:]
                        told = moved_items(rows, 0, start, stop, to)
                        self.assertEqual(drawn(moved), shown([told] + rows[1:], 0))


class Fixed(ItemCase):
    def test_windows_become_quotes(self):
        rows = house(ink(0, 3), SIX, EMPTY, FOUR)
        self.assertEqual([ink(0, 3), ink(30, 31), ink(20, 24), ink(31, 32), ink(20, 24)], fixed_items(rows, 0))
        self.assertEqual([ink(30, 31), ink(20, 24), ink(31, 32)], fixed_items(rows, 3))

    def test_without_windows_nothing_changes(self):
        for items in ([], [ink(0, 3)], [ink(4, 6), ink(0, 4), ink(0, 4)]):
            self.assertEqual(items, fixed_items(house(*items), 0))

    def test_windows_that_show_nothing_go(self):
        self.assertEqual([], fixed_items(house(EMPTY, EMPTY), 0))
        self.assertEqual([ink(0, 3), ink(7, 9)], fixed_items(house(ink(0, 3), EMPTY, ink(7, 9)), 0))

    def test_quotes_that_then_stand_side_by_side_become_one(self):
        self.assertEqual([ink(18, 27)], fixed_items(house(ink(18, 20), FOUR, EMPTY, ink(24, 27)), 0))
        self.assertEqual([ink(0, 9)], fixed_items(house(ink(0, 3), EMPTY, ink(3, 9)), 0))

    def test_a_chain_of_forty_sheets(self):
        rows = chain(40, [ink(4, 9), ink(0, 1)])
        self.assertEqual([ink(4, 9), ink(0, 1)], fixed_items(rows, 0))

    def test_small_houses(self):
        for rows in small_houses():
            self.assert_items(quoted(sheet_shows(rows, 0)), fixed_items(rows, 0))


class Struck(ItemCase):
    def test_addresses_go_out_of_the_quotes(self):
        rows = house(ink(0, 9), FOUR, ink(4, 6))
        self.assertEqual([ink(0, 4), ink(5, 9), FOUR, ink(5, 6)], struck_items(rows, 0, [(4, 5)]))
        self.assertEqual([ink(0, 1), ink(8, 9), FOUR], struck_items(rows, 0, [(3, 8), (1, 5)]))
        self.assertEqual([FOUR], struck_items(rows, 0, [(0, 100)]))

    def test_windows_stay(self):
        rows = house(FOUR, ink(20, 24), EMPTY, SIX)
        self.assertEqual([FOUR, EMPTY, SIX], struck_items(rows, 0, [(20, 24)]))
        self.assertEqual([ink(30, 31), FOUR, EMPTY, ink(31, 32)], struck_items(rows, 3, [(20, 24)]))

    def test_rows_without_addresses(self):
        for row in ([], [(2, 2)], [(0, 0), (30, 30)]):
            self.assertEqual([ink(0, 9), FOUR], struck_items(house(ink(0, 9), FOUR), 0, row))
            self.assertEqual([], struck_items(house(), 0, row))

    def test_rows_that_are_not_plain(self):
        self.assertEqual([ink(0, 2), ink(8, 9)],
                         struck_items(house(ink(0, 9)), 0, [(7, 8), (3, 3), (2, 4), (4, 7), (3, 5), (2, 4)]))

    def test_what_is_left_joins(self):
        self.assertEqual([ink(0, 5)], struck_items(house(ink(0, 3), ink(7, 9), ink(3, 5)), 0, [(7, 9)]))
        self.assertEqual([ink(0, 3), FOUR, ink(3, 5)],
                         struck_items(house(ink(0, 3), FOUR, ink(7, 9), ink(3, 5)), 0, [(7, 9)]))

    def test_long_stretches(self):
        self.assertEqual([ink(0, 5), ink(8, 9)], struck_items(house(ink(0, 9)), 0, [(BIG, HUGE), (5, 8), (9, BIG)]))
        self.assertEqual([ink(0, BIG), ink(HUGE - 1, HUGE)],
                         struck_items(house(ink(0, HUGE)), 0, [(BIG, HUGE - 1)]))

    def test_small_houses(self):
        for rows in small_houses():
            for row in ([(0, 1)], [(1, 2)], [(2, 3), (0, 2)], [(2, 23), (1, 1)], [(0, 30)]):
                had = set(listed(row))
                told = [part for item in rows[0] for part in (
                    [item] if item[0] == "win" else quoted(sorted(set(item_shows(rows, item)) - had))
                )]
                self.assert_items(told, struck_items(rows, 0, row), (rows[0], row))


class DeepAndLong(ItemCase):
    def test_forty_sheets_in_a_chain(self):
        rows = chain(40, [ink(0, 5)])
        self.assertEqual([ink(0, 2), ink(50, 51), ink(2, 5)], put_items(rows, 0, 2, [ink(50, 51)]))
        self.assertEqual([("win", 1), ink(50, 51)], put_items(rows, 0, 5, [ink(50, 51)]))
        self.assertEqual([ink(0, 1), ink(4, 5)], cut_items(rows, 0, 1, 4))
        self.assertEqual([ink(3, 5), ink(0, 3)], moved_items(rows, 0, 3, 5, 0))
        self.assertEqual([("win", 1)], struck_items(rows, 0, [(0, 5)]))

    def test_forty_sheets_that_show_nothing(self):
        rows = chain(40, [])
        self.assertEqual([("win", 1), ink(50, 51)], put_items(rows, 0, 0, [ink(50, 51)]))
        self.assertEqual([("win", 1)], cut_items(rows, 0, 0, 0))
        self.assertEqual([], fixed_items(rows, 0))
        self.assert_refused(OutOfPlace, cut_items, rows, 0, 0, 1)

    def test_a_sheet_of_many_items(self):
        items = [item for k in range(400) for item in (ink(5 * k, 5 * k + 1), EMPTY)]
        rows = house(*items)
        self.assertEqual(items[:200] + items[599:], cut_items(rows, 0, 100, 300))
        self.assertEqual(items[:200] + [ink(50, 52)] + items[200:], put_items(rows, 0, 100, [ink(50, 52)]))
        self.assertEqual(items[200:599] + items[:200] + items[599:], moved_items(rows, 0, 100, 300, 0))

    def test_long_quotes(self):
        rows = [[ink(0, BIG), ("win", 1)], [ink(BIG, HUGE)]]
        self.assertEqual([ink(0, BIG + 2), ink(5, 6), ink(BIG + 2, HUGE)], put_items(rows, 0, BIG + 2, [ink(5, 6)]))
        self.assertEqual([ink(0, BIG), ink(5, 6), ("win", 1)], put_items(rows, 0, BIG, [ink(5, 6)]))
        self.assertEqual([ink(0, 1), ("win", 1)], cut_items(rows, 0, 1, BIG))
        self.assertEqual([ink(0, 1), ink(HUGE - 1, HUGE)], cut_items(rows, 0, 1, HUGE - 1))
        self.assertEqual([("win", 1), ink(0, BIG)], moved_items(rows, 0, BIG, HUGE, 0))
        self.assertEqual([ink(0, HUGE)], fixed_items(rows, 0))
        self.assert_refused(OutOfPlace, put_items, rows, 0, HUGE + 1, [])


class NothingIsShared(ItemCase):
    def calls(self):
        for items in ([], [EMPTY], [ink(0, 3)], [ink(0, 3), EMPTY, FOUR, SIX, ink(7, 9)], [FOUR]):
            rows = house(*items)
            many = len(sheet_shows(rows, 0))
            for others in ([], [EMPTY], [ink(50, 51), FOUR]):
                for place in (0, many // 2, many):
                    yield put_items, rows, 0, place, others
            for start, stop in ((0, 0), (0, many), (many // 3, many // 2), (many // 2, many // 2), (many, many)):
                yield cut_items, rows, 0, start, stop
                yield moved_items, rows, 0, start, stop, 0
                yield moved_items, rows, 0, start, stop, many - (stop - start)
            for row in ([], [(0, 1)], [(1, 2), (2, 2)]):
                yield struck_items, rows, 0, row
            yield fixed_items, rows, 0
            yield plain_items, items
        yield plain_items, [ink(0, 3), ink(3, 4)]
        for row in ([], [(1, 3)], [(1, 3), (3, 3), (3, 4)]):
            yield inked, row

    def test_what_is_handed_in_and_told_is_apart(self):
        for doing, *given in self.calls():
            with self.subTest(doing=doing.__name__, given=given):
                self.assert_apart(doing, *copy.deepcopy(given))

    def test_the_sheet_s_own_list_handed_in_as_what_is_put(self):
        rows = house(ink(0, 3), FOUR)
        self.assertEqual([ink(0, 3), ink(0, 3), FOUR, FOUR], put_items(rows, 0, 3, rows[0]))
        self.assertEqual(house(ink(0, 3), FOUR), rows)

    def test_a_told_row_is_not_the_sheet_s_own_list(self):
        rows = house(ink(0, 3), FOUR)
        for told in (put_items(rows, 0, 1, []), cut_items(rows, 0, 1, 1), moved_items(rows, 0, 1, 1, 2),
                     struck_items(rows, 0, []), plain_items(rows[0])):
            self.assertEqual(rows[0], told)
            spoil(told)
            self.assertEqual(house(ink(0, 3), FOUR), rows)

    def test_a_refused_call_changes_nothing(self):
        rows, others = house(ink(0, 3), SIX), [ink(50, 51)]
        self.assert_refused(OutOfPlace, put_items, rows, 0, 10, others)
        self.assert_refused(OutOfPlace, cut_items, rows, 0, 3, 10)
        self.assert_refused(OutOfPlace, cut_items, rows, 0, 3, 2)
        self.assert_refused(OutOfPlace, moved_items, rows, 0, 1, 4, 7)
        self.assertEqual((house(ink(0, 3), SIX), [ink(50, 51)]), (rows, others))


if __name__ == "__main__":
    unittest.main()
