"""Points [12], [13] and [15] to [19]: what the deeds of a library do and tell."""

import unittest

from inkroot.errors import NoTie, OutOfInk, OutOfPlace, Ring, TooHeavy, TooMany
from inkroot.library import Library
from tests.helpers import Case, all_told, library

HUGE = 10 ** 60 - 1


def ink(start, stop):
    return ("ink", start, stop)


def win(sheet):
    return ("win", sheet)


def two_sheets():
    """Sheet 0 shows abcde, sheet 1 a window upon it between x and y; of the ink hand 1 has abcdefgh, hand 2 xy."""
    return library("pour 1 abcdefgh", "pour 2 xy", "fresh", "put 0 0 0-5", "fresh", "put 1 0 8-9 9-10", "window 1 1 0")


class Beginning(Case):
    def test_a_new_library(self):
        house = Library()
        self.assertEqual((0, 0, 0, 0), (house.now(), house.many(), house.ink(), house.paid()))
        self.assertEqual(([], [], [], 0), (house.lines(), house.hidden(), house.ties_on([]), house.due(3)))

    def test_the_two_sheets(self):
        house = two_sheets()
        self.assertEqual((7, 2, 10), (house.now(), house.many(), house.ink()))
        self.assertEqual([[ink(0, 5)], [ink(8, 9), win(0), ink(9, 10)]], [house.row(0), house.row(1)])
        self.assertEqual(["abcde", "xabcdey"], [house.text(0), house.text(1)])
        self.assertEqual([[(0, 5)], [(8, 9), (0, 5), (9, 10)]], [house.shown(0), house.shown(1)])
        self.assertEqual([5, 7, 5, 8], [house.size(0), house.size(1), house.weight(0), house.weight(1)])


class Moments(Case):
    def test_each_deed_makes_just_one_moment(self):
        house = two_sheets()
        doings = (
            lambda: house.pour(1, "z"), lambda: house.fresh(), lambda: house.put(0, 0, [(0, 1)]),
            lambda: house.cut(0, 0, 1), lambda: house.move(0, 0, 2, 1), lambda: house.quote(0, 0, 1, 0, 2),
            lambda: house.window(2, 0, 0), lambda: house.fix(2), lambda: house.back(2, house.now() - 1),
            lambda: house.fork(0, 4), lambda: house.strike([(0, 1)]), lambda: house.blot(1, [(1, 3)]),
            lambda: house.lift(1, [(1, 2)]), lambda: house.tie([(0, 1)], [(2, 3)]), lambda: house.untie(0),
            lambda: house.read(1),
        )
        for many, doing in enumerate(doings, start=8):
            doing()
            self.assertEqual((many, many), (house.now(), len(house.lines())))

    def test_also_where_nothing_else_changes(self):
        house = two_sheets()
        before = [house.row(0), house.row(1)]
        doings = (
            lambda: house.pour(1, ""), lambda: house.put(1, 3, []), lambda: house.cut(1, 3, 3),
            lambda: house.move(1, 3, 3, 2), lambda: house.quote(1, 3, 0, 2, 2), lambda: house.fix(0),
            lambda: house.back(0, house.now()), lambda: house.strike([]), lambda: house.strike([(6, 7)]),
            lambda: house.blot(7, []), lambda: house.lift(1, [(0, 1)]), lambda: house.move(0, 1, 3, 1),
        )
        for many, doing in enumerate(doings, start=8):
            doing()
            self.assertEqual((many, many), (house.now(), len(house.lines())))
            self.assertEqual(before, [house.row(0), house.row(1)])

    def test_questions_make_none(self):
        house = two_sheets()
        house.tie([(0, 1)], [(2, 3)])
        before = all_told(house)
        self.assertEqual(before, all_told(house))
        self.assertEqual(8, house.now())

    def test_what_deeds_tell(self):
        house = Library()
        self.assertEqual((0, 3), house.pour(5, "abc"))
        self.assertEqual((3, 3), house.pour(5, ""))
        self.assertEqual((3, 4), house.pour(HUGE, "d"))
        self.assertEqual([0, 1], [house.fresh(), house.fresh()])
        self.assertIsNone(house.put(0, 0, [(0, 3)]))
        self.assertIsNone(house.cut(0, 0, 1))
        self.assertIsNone(house.move(0, 0, 1, 1))
        self.assertIsNone(house.quote(1, 0, 0, 0, 1))
        self.assertIsNone(house.window(1, 0, 0))
        self.assertEqual("cbc", house.read(1))
        self.assertIsNone(house.fix(1))
        self.assertIsNone(house.back(1, 9))
        self.assertEqual(2, house.fork(0, 6))
        self.assertIsNone(house.strike([(1, 2)]))
        self.assertIsNone(house.blot(5, [(2, 3)]))
        self.assertIsNone(house.lift(5, [(2, 3)]))
        self.assertEqual([0, 1], [house.tie([(0, 1)], []), house.tie([], [])])
        self.assertIsNone(house.untie(0))
        self.assertEqual(2, house.tie([], [(3, 4)]))


class Sheets(Case):
    def test_fresh(self):
        house = Library()
        for number in range(40):
            self.assertEqual(number, house.fresh())
            self.assertEqual(([], "", 0), (house.row(number), house.text(number), house.weight(number)))
        self.assertEqual(40, house.many())

    def test_a_forty_first_sheet(self):
        house = library(*["fresh"] * 40)
        before = all_told(house)
        self.assert_refused(TooMany, house.fresh)
        self.assert_refused(TooMany, house.fork, 0, 40)
        self.assertEqual(before, all_told(house))

    def test_put(self):
        house = two_sheets()
        house.put(0, 2, [(5, 6), (6, 8), (0, 1)])
        self.assertEqual([ink(0, 2), ink(5, 8), ink(0, 1), ink(2, 5)], house.row(0))
        self.assertEqual(["abfghacde", "xabfghacdey"], [house.text(0), house.text(1)])
        house.put(0, 9, [(5, 6)])
        self.assertEqual("abfghacdef", house.text(0))

    def test_a_put_breaks_a_window(self):
        house = two_sheets()
        house.put(1, 3, [(7, 8)])
        self.assertEqual([ink(8, 9), ink(0, 2), ink(7, 8), ink(2, 5), ink(9, 10)], house.row(1))
        house.cut(0, 0, 5)
        self.assertEqual("xabhcdey", house.text(1))

    def test_a_put_at_a_window_s_edge(self):
        house = two_sheets()
        house.put(1, 1, [(7, 8)])
        house.put(1, 7, [(7, 8)])
        self.assertEqual([ink(8, 9), ink(7, 8), win(0), ink(7, 8), ink(9, 10)], house.row(1))

    def test_a_put_behind_a_window_that_shows_nothing(self):
        house = library("pour 1 ab", "fresh", "fresh", "window 0 0 1", "put 0 0 0-1", "put 0 0 1-2")
        self.assertEqual([win(1), ink(1, 2), ink(0, 1)], house.row(0))

    def test_cut(self):
        house = two_sheets()
        house.cut(1, 0, 3)
        self.assertEqual([ink(2, 5), ink(9, 10)], house.row(1))
        house.cut(0, 1, 4)
        self.assertEqual(([ink(0, 1), ink(4, 5)], "cdey"), (house.row(0), house.text(1)))
        house.cut(1, 0, 4)
        self.assertEqual([], house.row(1))

    def test_move(self):
        house = two_sheets()
        house.move(1, 1, 6, 2)
        self.assertEqual([ink(8, 10), win(0)], house.row(1))
        house.move(1, 6, 7, 0)
        self.assertEqual([ink(4, 5), ink(8, 10), ink(0, 4)], house.row(1))
        self.assertEqual("exyabcd", house.text(1))

    def test_a_move_s_last_place(self):
        house = two_sheets()
        self.assert_refused(OutOfPlace, house.move, 0, 0, 2, 4)
        house.move(0, 0, 2, 3)
        self.assertEqual("cdeab", house.text(0))
        house.move(0, 0, 5, 0)
        self.assert_refused(OutOfPlace, house.move, 0, 0, 5, 1)

    def test_quote(self):
        house = two_sheets()
        house.quote(0, 5, 1, 0, 3)
        self.assertEqual([ink(0, 5), ink(8, 9), ink(0, 2)], house.row(0))
        self.assertEqual("xabcdexaby", house.text(1))
        house.cut(0, 0, 8)
        self.assertEqual(([], "xy"), (house.row(0), house.text(1)))

    def test_a_quote_is_of_what_was_shown_then(self):
        house = two_sheets()
        house.fresh()
        house.quote(2, 0, 1, 1, 6)
        house.cut(0, 0, 5)
        self.assertEqual(("xy", "abcde", [ink(0, 5)]), (house.text(1), house.text(2), house.row(2)))

    def test_a_sheet_quotes_itself(self):
        house = two_sheets()
        house.quote(1, 7, 1, 0, 7)
        self.assertEqual("xabcdeyxabcdey", house.text(1))
        self.assertEqual([ink(8, 9), win(0), ink(9, 10), ink(8, 9), ink(0, 5), ink(9, 10)], house.row(1))
        house.quote(0, 2, 0, 0, 5)
        self.assertEqual("ababcdecde", house.text(0))

    def test_a_quote_breaks_a_window(self):
        house = two_sheets()
        house.quote(1, 2, 0, 4, 5)
        self.assertEqual([ink(8, 9), ink(0, 1), ink(4, 5), ink(1, 5), ink(9, 10)], house.row(1))

    def test_window(self):
        house = two_sheets()
        house.fresh()
        house.window(2, 0, 1)
        house.window(2, 7, 0)
        self.assertEqual(([win(1), win(0)], "xabcdeyabcde"), (house.row(2), house.text(2)))
        house.put(0, 0, [(7, 8)])
        self.assertEqual("xhabcdeyhabcde", house.text(2))
        house.window(2, 2, 0)
        self.assertEqual([ink(8, 9), ink(7, 8), win(0), ink(0, 5), ink(9, 10), win(0)], house.row(2))

    def test_fix(self):
        house = two_sheets()
        house.fix(1)
        self.assertEqual([ink(8, 9), ink(0, 5), ink(9, 10)], house.row(1))
        house.cut(0, 0, 5)
        self.assertEqual("xabcdey", house.text(1))

    def test_fix_takes_windows_that_show_nothing(self):
        house = library("fresh", "fresh", "window 0 0 1", "fix 0")
        self.assertEqual([], house.row(0))

    def test_fix_goes_through_windows_within_windows(self):
        house = two_sheets()
        house.fresh()
        house.window(2, 0, 1)
        house.fix(2)
        self.assertEqual(([ink(8, 9), ink(0, 5), ink(9, 10)], 7), (house.row(2), house.weight(2)))
        self.assertEqual([ink(8, 9), win(0), ink(9, 10)], house.row(1))

    def test_back(self):
        house = two_sheets()
        house.fix(1)
        house.cut(0, 0, 3)
        house.back(1, 7)
        self.assertEqual(([ink(8, 9), win(0), ink(9, 10)], "xdey"), (house.row(1), house.text(1)))
        house.back(1, 6)
        self.assertEqual(([ink(8, 10)], "xy"), (house.row(1), house.text(1)))
        house.back(1, 5)
        self.assertEqual([], house.row(1))
        self.assertEqual([ink(3, 5)], house.row(0))

    def test_back_to_now(self):
        house = two_sheets()
        house.back(1, house.now())
        self.assertEqual(([ink(8, 9), win(0), ink(9, 10)], 8), (house.row(1), house.now()))

    def test_fork(self):
        house = two_sheets()
        house.cut(1, 0, 7)
        self.assertEqual(2, house.fork(1, 7))
        self.assertEqual(([ink(8, 9), win(0), ink(9, 10)], []), (house.row(2), house.row(1)))
        house.cut(0, 0, 4)
        self.assertEqual("xey", house.text(2))
        self.assertEqual(3, house.fork(1, 8))
        self.assertEqual([], house.row(3))

    def test_strike(self):
        house = two_sheets()
        house.fresh()
        house.put(2, 0, [(1, 4), (1, 2), (7, 9), (9, 10)])
        house.strike([(8, 9), (1, 3), (1, 2)])
        self.assertEqual([[ink(0, 1), ink(3, 5)], [win(0), ink(9, 10)], [ink(3, 4), ink(7, 8), ink(9, 10)]],
                         [house.row(sheet) for sheet in range(3)])
        self.assertEqual("adey", house.text(1))
        house.strike([(0, 10)])
        self.assertEqual([[], [win(0)], []], [house.row(sheet) for sheet in range(3)])

    def test_struck_items_become_plain(self):
        house = library("pour 1 abcdef", "fresh", "put 0 0 0-2 4-5 2-4", "strike 4-5")
        self.assertEqual([ink(0, 4)], house.row(0))

    def test_ink_that_was_struck_stays_in_the_well(self):
        house = two_sheets()
        house.strike([(0, 10)])
        house.put(0, 0, [(0, 3)])
        self.assertEqual(("abc", 10), (house.text(0), house.ink()))


class Rings(Case):
    def assert_ring(self, way, doing, *given):
        with self.assertRaises(Ring) as caught:
            doing(*given)
        self.assertEqual((way, list), (caught.exception.way, type(caught.exception.way)))

    def test_a_window_upon_itself(self):
        house = library("fresh", "fresh")
        before = all_told(house)
        self.assert_ring([1, 1], house.window, 1, 0, 1)
        self.assertEqual(before, all_told(house))

    def test_by_others(self):
        house = library("fresh", "fresh", "fresh", "window 0 0 1", "window 1 0 2")
        before = all_told(house)
        self.assert_ring([2, 0, 1, 2], house.window, 2, 0, 0)
        self.assert_ring([2, 1, 2], house.window, 2, 0, 1)
        self.assert_ring([1, 0, 1], house.window, 1, 0, 0)
        self.assertEqual(before, all_told(house))
        house.window(0, 0, 2)

    def test_a_ring_of_forty_sheets(self):
        house = library(*["fresh"] * 40, *[f"window {sheet} 0 {sheet + 1}" for sheet in range(39)])
        self.assert_ring([39] + list(range(40)), house.window, 39, 0, 0)

    def test_back_into_a_ring(self):
        house = library("pour 1 a", "fresh", "fresh", "put 1 0 0-1", "window 0 0 1", "cut 0 0 1", "window 1 1 0")
        before = all_told(house)
        self.assertEqual([win(1)], house.row_then(0, 5))
        self.assert_ring([0, 1, 0], house.back, 0, 5)
        self.assertEqual(before, all_told(house))
        self.assertEqual(2, house.fork(0, 5))
        self.assertEqual("a", house.text(2))

    def test_a_broken_window_makes_no_ring(self):
        house = library("pour 1 ab", "fresh", "fresh", "put 1 0 0-2", "window 0 0 1", "put 0 1 0-1")
        house.window(1, 0, 0)
        self.assertEqual("aabab", house.text(1))


class Weights(Case):
    def test_two_hundred_and_one_more(self):
        house = library("pour 1 " + "a" * 200, "fresh", "put 0 0 0-200")
        self.assertEqual(200, house.weight(0))
        before = all_told(house)
        self.assert_refused(TooHeavy, house.put, 0, 0, [(5, 6)])
        self.assert_refused(TooHeavy, house.quote, 0, 100, 0, 3, 4)
        self.assertEqual(before, all_told(house))
        house.put(0, 0, [])
        house.quote(0, 0, 0, 9, 9)
        house.move(0, 0, 100, 7)
        house.cut(0, 0, 1)
        house.put(0, 199, [(5, 6)])
        self.assertEqual(200, house.weight(0))

    def test_a_window_counts_one_and_its_sheet(self):
        house = library("pour 1 " + "a" * 200, "fresh", "fresh", "put 0 0 0-200")
        self.assert_refused(TooHeavy, house.window, 1, 0, 0)
        house.cut(0, 0, 1)
        house.window(1, 0, 0)
        self.assertEqual((199, 200), (house.weight(0), house.weight(1)))

    def test_a_sheet_above_the_changed_one(self):
        house = library("pour 1 " + "a" * 200, "fresh", "fresh", "fresh", "window 0 0 1", "window 1 0 2")
        before = all_told(house)
        self.assert_refused(TooHeavy, house.put, 2, 0, [(0, 199)])
        self.assertEqual(before, all_told(house))
        house.put(2, 0, [(0, 198)])
        self.assertEqual([200, 199, 198], [house.weight(sheet) for sheet in range(3)])
        house.fresh()
        self.assert_refused(TooHeavy, house.window, 2, 0, 3)
        self.assert_refused(TooHeavy, house.quote, 1, 0, 2, 0, 1)

    def test_windows_that_show_nothing(self):
        house = library("fresh", "fresh", *["window 0 0 1"] * 200)
        self.assertEqual((200, 0), (house.weight(0), house.size(0)))
        self.assert_refused(TooHeavy, house.window, 0, 0, 1)
        self.assert_refused(TooHeavy, house.window, 1, 0, house.fresh())

    def test_the_weight_behind_the_deed_counts(self):
        house = library("pour 1 " + "a" * 200, "fresh", "fresh", "put 0 0 0-100", "window 1 0 0", "put 1 0 0-99")
        self.assertEqual((200, 199), (house.weight(1), house.size(1)))
        house.put(1, 150, [(7, 8)])
        self.assertEqual((200, 200), (house.weight(1), house.size(1)))
        self.assert_refused(TooHeavy, house.put, 1, 150, [(7, 8)])

    def test_back_and_fork(self):
        house = library("pour 1 " + "a" * 200, "fresh", "fresh", "window 0 0 1", "fix 0", "put 1 0 0-200")
        before = all_told(house)
        self.assert_refused(TooHeavy, house.back, 0, 4)
        self.assert_refused(TooHeavy, house.fork, 0, 4)
        self.assertEqual(before, all_told(house))
        house.cut(1, 0, 1)
        house.back(0, 4)
        self.assertEqual(200, house.weight(0))
        self.assertEqual(2, house.fork(0, 4))
        self.assertEqual(200, house.weight(2))

    def test_back_of_a_sheet_below(self):
        house = library("pour 1 " + "a" * 200, "fresh", "fresh", "put 1 0 0-200", "cut 1 0 200", "window 0 0 1")
        self.assert_refused(TooHeavy, house.back, 1, 4)
        house.fork(1, 4)
        self.assertEqual((200, 1), (house.weight(2), house.weight(0)))


class Blotting(Case):
    def test_a_hidden_sign_is_read_so_everywhere(self):
        house = two_sheets()
        house.fork(1, 7)
        house.blot(1, [(1, 3), (4, 5)])
        self.assertEqual(["a##d#", "xa##d#y", "xa##d#y"], [house.text(sheet) for sheet in range(3)])
        self.assertEqual([(1, 3), (4, 5)], house.hidden())
        self.assertEqual("xa##d#y", house.text_then(1, 7))
        self.assertEqual("a##d#", house.text_then(0, 4))
        self.assertEqual("xa##d#y", house.read(1))

    def test_addresses_and_places_stay(self):
        house = two_sheets()
        before = [house.row(0), house.row(1), house.shown(1), house.size(1), house.places(2), house.weight(1)]
        house.blot(1, [(0, 8)])
        self.assertEqual(before, [house.row(0), house.row(1), house.shown(1), house.size(1), house.places(2),
                                  house.weight(1)])
        house.put(0, 0, [(1, 2)])
        house.move(0, 0, 1, 5)
        house.lift(1, [(1, 2)])
        self.assertEqual("#b###b", house.text(0))

    def test_lift(self):
        house = two_sheets()
        house.blot(1, [(0, 5)])
        house.lift(1, [(0, 1), (3, 4), (7, 8)])
        self.assertEqual(("a##d#", [(1, 3), (4, 5)]), (house.text(0), house.hidden()))
        self.assertEqual("a##d#", house.text_then(0, 4))

    def test_rows_over_several_pourings_of_one_hand(self):
        house = library("pour 1 ab", "pour 1 cd", "pour 2 ef", "pour 1 g")
        house.blot(1, [(0, 4), (6, 7), (2, 3)])
        self.assertEqual([(0, 4), (6, 7)], house.hidden())

    def test_a_row_without_stretches_is_any_hand_s(self):
        house = Library()
        house.blot(4, [])
        house.lift(HUGE, [])
        self.assertEqual((2, []), (house.now(), house.hidden()))

    def test_a_sign_that_was_poured_as_a_veil_is_not_hidden(self):
        house = library("pour 1 a#b", "fresh", "put 0 0 0-3", "blot 1 0-1")
        self.assertEqual(("##b", [(0, 1)], [1]), (house.text(0), house.hidden(), house.found(0, "#")))


class Reading(Case):
    def test_each_sign_pays_its_hand(self):
        house = two_sheets()
        self.assertEqual("xabcdey", house.read(1))
        self.assertEqual([0, 5, 2, 0], [house.due(hand) for hand in range(4)])
        self.assertEqual((7, 8), (house.paid(), house.now()))
        house.read(0)
        self.assertEqual(([10, 2], 12), ([house.due(1), house.due(2)], house.paid()))

    def test_a_sign_shown_twice_pays_twice(self):
        house = two_sheets()
        house.window(1, 7, 0)
        house.put(1, 0, [(0, 1)])
        house.read(1)
        self.assertEqual([11, 2], [house.due(1), house.due(2)])

    def test_hidden_signs_pay_nothing(self):
        house = two_sheets()
        house.blot(1, [(0, 3)])
        house.blot(2, [(8, 10)])
        self.assertEqual("####de#", house.read(1))
        self.assertEqual(([2, 0], 2), ([house.due(1), house.due(2)], house.paid()))
        house.lift(2, [(9, 10)])
        house.read(1)
        self.assertEqual(([4, 1], 5), ([house.due(1), house.due(2)], house.paid()))

    def test_what_was_paid_stays(self):
        house = two_sheets()
        house.read(1)
        house.blot(1, [(0, 8)])
        house.strike([(0, 8)])
        self.assertEqual(([5, 2], 7), ([house.due(1), house.due(2)], house.paid()))

    def test_an_empty_sheet(self):
        house = library("fresh")
        self.assertEqual(("", 0, 2), (house.read(0), house.paid(), house.now()))

    def test_texts_that_are_asked_for_pay_nothing(self):
        house = two_sheets()
        house.text(1)
        house.text_then(1, 7)
        house.found(1, "a")
        self.assertEqual((0, 0), (house.paid(), house.due(1)))


class Tying(Case):
    def test_numbers_are_not_given_again(self):
        house = two_sheets()
        self.assertEqual([0, 1], [house.tie([(0, 2)], [(8, 9)]), house.tie([(3, 4)], [])])
        house.untie(1)
        self.assertEqual(2, house.tie([], []))
        self.assertEqual([NoTie.__name__, ([], [])], [self.ends(house, 1), self.ends(house, 2)])
        house.untie(2)
        self.assertEqual(3, house.tie([(1, 2)], [(1, 2)]))

    def ends(self, house, number):
        try:
            return house.ends(number)
        except NoTie as refused:
            return type(refused).__name__

    def test_a_refused_tie_takes_no_number(self):
        house = two_sheets()
        self.assert_refused(OutOfInk, house.tie, [(0, 1)], [(9, 11)])
        self.assert_refused(OutOfInk, house.tie, [(3, 3)], [(0, 1)])
        self.assertEqual(0, house.tie([(0, 1)], [(0, 1)]))

    def test_ends_are_plain(self):
        house = two_sheets()
        house.tie([(0, 2), (2, 3)], [(9, 10), (8, 9)])
        self.assertEqual(([(0, 3)], [(9, 10), (8, 9)]), house.ends(0))

    def test_a_tie_goes_with_its_ink(self):
        house = two_sheets()
        house.tie([(1, 2)], [(9, 10)])
        self.assertEqual([[0], [0]], [house.ties_of(0), house.ties_of(1)])
        house.cut(0, 1, 2)
        self.assertEqual([[], [0]], [house.ties_of(0), house.ties_of(1)])
        house.cut(1, 5, 6)
        self.assertEqual([[], []], [house.ties_of(0), house.ties_of(1)])
        self.assertEqual(([(1, 2)], [(9, 10)]), house.ends(0))


class ThenAndNow(Case):
    def test_what_a_sheet_showed_goes_by_the_windows_of_that_moment(self):
        house = two_sheets()
        house.cut(0, 0, 3)
        house.put(0, 0, [(7, 8)])
        self.assertEqual(["xabcdey", "xdey", "xhdey"], [house.text_then(1, moment) for moment in (7, 8, 9)])
        self.assertEqual([[ink(8, 9), win(0), ink(9, 10)]] * 3, [house.row_then(1, moment) for moment in (7, 8, 9)])
        self.assertEqual([(8, 9), (3, 5), (9, 10)], house.shown_then(1, 8))
        house.back(0, 8)
        self.assertEqual(["xabcdey", "xdey", "xhdey", "xdey"], [house.text_then(1, moment) for moment in (7, 8, 9, 10)])

    def test_a_sheet_is_there_from_the_moment_on_that_opened_it(self):
        house = two_sheets()
        self.assertEqual(([], "", []), (house.row_then(1, 5), house.text_then(1, 5), house.shown_then(1, 5)))
        self.assertEqual([[], [ink(0, 5)]], [house.row_then(0, 3), house.row_then(0, 4)])
        house.fork(0, 4)
        self.assertEqual([ink(0, 5)], house.row_then(2, 8))


if __name__ == "__main__":
    unittest.main()
