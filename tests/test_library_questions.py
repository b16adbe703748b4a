"""Points [1], [2], [7], [15] and [18] to [20]: what a library tells, and that nothing of it is shared."""

import copy
import unittest

from inkroot.desk import does, relived
from inkroot.library import Library
from tests.helpers import Case, all_told, library, spoil

HUGE = 10 ** 60 - 1


def house():
    """The ink is banana ink# of hand 4 and nano of hand 0.

    Sheet 0 shows banana; sheet 1 an, a window upon sheet 0, then nano; sheet 2 nothing but a window that shows nothing;
    sheet 3 nothing at all.
    """
    return library(
        "pour 4 banana ink#", "pour 0 nano", "fresh", "fresh", "fresh", "fresh", "put 0 0 0-6", "put 1 0 1-3 11-15",
        "window 1 2 0", "window 2 0 3",
    )


class Found(Case):
    def test_places_rise_and_may_overlap(self):
        place = house()
        self.assertEqual(("banana", "anbanananano"), (place.text(0), place.text(1)))
        self.assertEqual([1, 3], place.found(0, "ana"))
        self.assertEqual([3, 5, 7], place.found(1, "ana"))
        self.assertEqual([0], place.found(0, "banana"))
        self.assertEqual([0, 3, 5, 7, 9], place.found(1, "an"))
        self.assertEqual([5], place.found(0, "a")[2:])

    def test_over_the_edges_of_windows(self):
        self.assertEqual([1], house().found(1, "nban"))
        self.assertEqual([6], house().found(1, "nanano"))

    def test_words_that_are_not_there(self):
        for word in ("x", "bananas", "Banana", "nab", "ananas", "#"):
            self.assertEqual([], house().found(0, word))
        self.assertEqual([], house().found(2, "a"))

    def test_the_empty_word(self):
        for sheet in range(4):
            self.assertEqual([], house().found(sheet, ""))

    def test_no_sign_of_it_may_be_hidden(self):
        place = house()
        place.blot(4, [(3, 4)])
        self.assertEqual(("ban#na", []), (place.text(0), place.found(0, "n#n")))
        self.assertEqual([0, 2], [*place.found(0, "ban"), *place.found(0, "n")[:1]])
        self.assertEqual(([], []), (place.found(0, "ana"), place.found(0, "#")))
        self.assertEqual([1, 5], place.found(0, "a"))
        place.lift(4, [(3, 4)])
        self.assertEqual([1, 3], place.found(0, "ana"))

    def test_a_poured_veil_is_a_sign_as_others(self):
        place = house()
        place.put(3, 0, [(7, 11), (0, 1)])
        self.assertEqual(([3], [2]), (place.found(3, "#"), place.found(3, "k#b")))
        place.blot(4, [(0, 1)])
        self.assertEqual(("ink##", [3], []), (place.text(3), place.found(3, "#"), place.found(3, "##")))
        place.blot(4, [(10, 11)])
        self.assertEqual([], place.found(3, "#"))

    def test_blanks(self):
        place = house()
        place.put(3, 0, [(0, 10)])
        self.assertEqual(([6], [5]), (place.found(3, " "), place.found(3, "a i")))

    def test_a_word_longer_than_the_sheet(self):
        self.assertEqual([], house().found(0, "banana" * 40))


class Places(Case):
    def test_by_rising_sheet_then_place(self):
        place = house()
        self.assertEqual([(0, 1), (1, 0), (1, 3)], place.places(1))
        self.assertEqual([(0, 0), (1, 2)], place.places(0))
        self.assertEqual([(1, 8)], place.places(11))
        self.assertEqual([], place.places(7))
        place.put(0, 6, [(1, 2)])
        self.assertEqual([(0, 1), (0, 6), (1, 0), (1, 3), (1, 8)], place.places(1))

    def test_hidden_signs_too(self):
        place = house()
        place.blot(4, [(0, 6)])
        self.assertEqual([(0, 1), (1, 0), (1, 3)], place.places(1))

    def test_every_address(self):
        place = house()
        for address in range(place.ink()):
            told = []
            for sheet in range(4):
                shown = [k for start, stop in place.shown(sheet) for k in range(start, stop)]
                told += [(sheet, spot) for spot, number in enumerate(shown) if number == address]
            self.assertEqual(told, place.places(address))


class TiesOf(Case):
    def tied(self):
        place = house()
        place.tie([(0, 1)], [(11, 12), (4, 5)])
        place.tie([(7, 8)], [(1, 3)])
        place.tie([(7, 8)], [(8, 9)])
        return place

    def test_on_a_row(self):
        place = self.tied()
        self.assertEqual([0], place.ties_on([(0, 1)]))
        self.assertEqual([1, 2], place.ties_on([(7, 8)]))
        self.assertEqual([0, 1, 2], place.ties_on([(8, 9), (1, 2), (11, 12)]))
        self.assertEqual(([], []), (place.ties_on([]), place.ties_on([(9, 11)])))
        place.untie(1)
        self.assertEqual([2], place.ties_on([(7, 8), (1, 3)]))

    def test_of_a_sheet(self):
        place = self.tied()
        self.assertEqual([[0, 1], [0, 1], [], []], [place.ties_of(sheet) for sheet in range(4)])
        place.put(3, 0, [(8, 9)])
        self.assertEqual([[0, 1], [0, 1], [2], [2]], [place.ties_of(sheet) for sheet in range(4)])

    def test_followed(self):
        place = self.tied()
        self.assertEqual([(0, 4), (1, 6), (1, 8)], place.followed(0))
        self.assertEqual([(0, 1), (0, 2), (1, 0), (1, 1), (1, 3), (1, 4)], place.followed(1))
        self.assertEqual([], place.followed(2))
        place.tie([(0, 6)], [])
        self.assertEqual([], place.followed(3))

    def test_an_address_twice_in_the_end_is_told_once(self):
        place = house()
        place.tie([], [(1, 2), (0, 2), (1, 2)])
        self.assertEqual([(0, 0), (0, 1), (1, 0), (1, 2), (1, 3)], place.followed(0))


class Since(Case):
    def test_what_went_and_what_came(self):
        place = house()
        place.cut(0, 1, 3)
        place.put(0, 0, [(9, 11), (7, 8), (9, 10)])
        self.assertEqual(([(1, 3)], [(7, 8), (9, 11)]), place.since(0, 10))
        self.assertEqual(([], [(7, 8), (9, 11)]), place.since(0, 11))
        self.assertEqual(([], []), place.since(0, 12))
        self.assertEqual(([], [(0, 1), (3, 6), (7, 8), (9, 11)]), place.since(0, 3))

    def test_by_windows(self):
        place = house()
        place.cut(0, 0, 6)
        self.assertEqual(([(0, 1), (3, 6)], []), place.since(1, 10))
        self.assertEqual(([], []), place.since(2, 10))

    def test_an_order_that_changed_is_no_change(self):
        place = house()
        place.move(0, 0, 3, 3)
        self.assertEqual(("anaban", ([], [])), (place.text(0), place.since(0, 10)))

    def test_an_address_that_is_told_twice(self):
        place = house()
        place.put(0, 0, [(3, 5), (7, 9), (8, 10)])
        self.assertEqual(([], [(7, 10)]), place.since(0, 10))
        place.cut(0, 0, 12)
        self.assertEqual(([(0, 6), (7, 10)], []), place.since(0, 11))

    def test_it_is_a_tuple_of_lists(self):
        told = house().since(0, 5)
        self.assertEqual((tuple, list, list), (type(told), type(told[0]), type(told[1])))


class Common(Case):
    def test_two_sheets(self):
        place = house()
        self.assertEqual([(0, 2, 6), (1, 0, 2)], place.common(0, 1))
        self.assertEqual([(0, 1, 2), (2, 0, 6)], place.common(1, 0))
        self.assertEqual([], place.common(0, 2))

    def test_a_sheet_with_itself(self):
        place = house()
        self.assertEqual([(0, 0, 6)], place.common(0, 0))
        self.assertEqual([(0, 0, 12), (0, 3, 2), (3, 0, 2)], place.common(1, 1))
        self.assertEqual([], place.common(3, 3))

    def test_the_same_signs_at_other_addresses_are_not_common(self):
        place = house()
        place.put(3, 0, [(11, 14)])
        self.assertEqual(("nan", []), (place.text(3), place.common(0, 3)))

    def test_hidden_signs_too(self):
        place = house()
        place.blot(4, [(0, 11)])
        self.assertEqual([(0, 2, 6), (1, 0, 2)], place.common(0, 1))


class Shares(Case):
    def test_pairs_by_rising_hand(self):
        place = house()
        self.assertEqual([[(4, 6)], [(0, 4), (4, 8)], [], []], [place.shares(sheet) for sheet in range(4)])

    def test_hidden_signs_too(self):
        place = house()
        place.blot(4, [(0, 11)])
        place.blot(0, [(11, 15)])
        self.assertEqual([(0, 4), (4, 8)], place.shares(1))

    def test_huge_hands(self):
        place = library(f"pour {HUGE} ab", "pour 9 c", "pour 10 d", "fresh", "put 0 0 3-4 0-3")
        self.assertEqual([(9, 1), (10, 1), (HUGE, 2)], place.shares(0))
        place.read(0)
        self.assertEqual((2, 1, 0, 4), (place.due(HUGE), place.due(9), place.due(8), place.paid()))


class NothingIsShared(Case):
    def test_libraries_do_not_know_of_one_another(self):
        one, other = house(), Library()
        before = all_told(one)
        other.pour(1, "x")
        other.fresh()
        self.assertEqual((before, 1, 1, []), (all_told(one), other.ink(), other.many(), other.row(0)))

    def test_rows_handed_to_deeds_stay_and_may_be_changed(self):
        for row in ([], [(0, 2)], [(0, 2), (2, 4), (8, 9)]):
            for name, given in (("put", (0, 0)), ("put", (3, 0)), ("strike", ()), ("blot", (4,)), ("lift", (4,))):
                place, handed = house(), list(row)
                does(place, (name, *given, handed))
                self.check_kept(place, [handed], [row])
            place, one, other = house(), list(row), list(row)
            place.tie(one, other)
            self.check_kept(place, [one, other], [row, row])
            place, both = house(), list(row)
            place.tie(both, both)
            self.check_kept(place, [both], [row])

    def check_kept(self, place, handed, rows):
        self.assertEqual(rows, handed)
        before = all_told(place)
        for row in handed:
            spoil(row)
        self.assertEqual(before, all_told(place))
        self.assertEqual(before, all_told(relived(place.lines())))

    def test_a_deed_s_tuple_stays_and_its_rows_may_be_changed(self):
        place, deeds = house(), [("put", 0, 0, [(0, 1), (1, 2)]), ("tie", [(0, 1)], [(1, 2), (2, 3)]), ("strike", [(0, 1)])]
        kept = copy.deepcopy(deeds)
        for deed in deeds:
            does(place, deed)
        self.assertEqual(kept, deeds)
        before = all_told(place)
        for deed in deeds:
            for thing in deed:
                if isinstance(thing, list):
                    spoil(thing)
        self.assertEqual(before, all_told(place))
        self.assertEqual(["put 0 0 0-1 1-2", "tie 0-1 / 1-2 2-3", "strike 0-1"], place.lines()[-3:])

    def test_rows_handed_to_questions_stay(self):
        place = house()
        place.tie([(0, 1)], [(3, 4)])
        before = all_told(place)
        for row in ([], [(0, 1)], [(0, 1), (1, 4), (3, 4)]):
            self.assert_apart(place.ties_on, list(row))
        self.assertEqual(before, all_told(place))

    def test_what_is_told_may_be_changed(self):
        place = house()
        place.tie([(0, 1)], [(3, 4)])
        place.blot(4, [(3, 4)])
        before = all_told(place)
        for told in (place.lines(), place.hidden(), place.places(1), place.ties_on([(0, 1)]), place.followed(0),
                     place.common(0, 1), *place.ends(0)):
            spoil(told)
        for sheet in range(4):
            for told in (place.row(sheet), place.row_then(sheet, 9), place.shown(sheet), place.shown_then(sheet, 9),
                         place.found(sheet, "a"), place.ties_of(sheet), place.shares(sheet), *place.since(sheet, 7)):
                spoil(told)
        self.assertEqual(before, all_told(place))

    def test_what_was_told_stays_as_it_was(self):
        place = house()
        place.tie([(0, 1)], [(3, 4)])
        told = [place.lines(), place.hidden(), place.row(1), place.row_then(1, 9), place.shown(1), place.ties_of(0),
                place.ends(0), place.shares(0)]
        kept = copy.deepcopy(told)
        for deed in (("blot", 4, [(0, 3)]), ("put", 1, 0, [(0, 3)]), ("tie", [(0, 1)], []), ("untie", 0),
                     ("strike", [(1, 5)])):
            does(place, deed)
        self.assertEqual(kept, told)

    def test_a_told_row_may_be_handed_in(self):
        place = house()
        told = place.shown(1)
        place.put(3, 0, told)
        place.tie(told, told)
        told.clear()
        self.assertEqual(("anbanananano", [(1, 3), (0, 6), (11, 15)]), (place.text(3), place.ends(0)[0]))


if __name__ == "__main__":
    unittest.main()
