"""Points [1], [4] and [18] for ties."""

import itertools
import unittest

from inkroot.errors import NoTie
from inkroot.spans import plain
from inkroot.ties import Ties
from tests.helpers import Case, listed, scaled, small_rows, spoil

BIG = 10 ** 30
HUGE = 10 ** 60 - 1


def tied(*pairs):
    """New ties of these pairs of rows."""
    ties = Ties()
    for one, other in pairs:
        ties.tie(one, other)
    return ties


def filled():
    """Four ties, of which the second one is untied."""
    ties = tied(([(0, 3)], [(10, 12)]), ([(0, 3)], [(0, 3)]), ([(11, 12), (5, 6)], [(2, 4)]), ([], [(8, 9)]))
    ties.untie(1)
    return ties


def all_told(ties):
    """All that ties tell of small rows."""
    rows = [[(k, k + 1)] for k in range(14)] + [[], [(0, 14)], [(4, 4)]]
    return (
        ties.live(), [ties.ends(number) for number in ties.live()],
        [(ties.on(row), ties.leaving(row), ties.coming(row)) for row in rows],
    )


class Numbers(Case):
    def test_they_come_from_nought_on(self):
        ties = Ties()
        self.assertEqual([0, 1, 2, 3], [ties.tie([(0, 1)], [(0, 1)]) for k in range(4)])
        self.assertEqual([0, 1, 2, 3], ties.live())

    def test_none_is_given_again(self):
        ties = Ties()
        for number in range(5):
            self.assertEqual(number, ties.tie([(1, 2)], []))
            ties.untie(number)
        self.assertEqual([], ties.live())
        self.assertEqual([5, 6], [ties.tie([], []), ties.tie([], [])])
        ties.untie(5)
        self.assertEqual(7, ties.tie([(1, 2)], []))
        self.assertEqual([6, 7], ties.live())

    def test_new_ties(self):
        ties = Ties()
        self.assertEqual(([], [], [], []), (ties.live(), ties.on([(0, 9)]), ties.leaving([(0, 9)]), ties.coming([])))

    def test_untie_tells_nothing(self):
        self.assertIsNone(tied(([], [])).untie(0))


class Ends(Case):
    def test_the_pair_of_plain_rows(self):
        ties = tied(([(1, 3), (3, 5), (6, 6)], [(4, 4)]), ([], [(7, 9), (1, 2), (2, 2), (2, 3), (1, 2)]))
        self.assertEqual(([(1, 5)], []), ties.ends(0))
        self.assertEqual(([], [(7, 9), (1, 3), (1, 2)]), ties.ends(1))
        self.assertEqual((tuple, list, list), (type(ties.ends(0)), *[type(end) for end in ties.ends(0)]))

    def test_all_small_rows(self):
        for row in small_rows(3, 3):
            ties = tied((row, [(5, 6)]), ([(5, 6)], row))
            self.assertEqual((plain(row), [(5, 6)]), ties.ends(0))
            self.assertEqual(([(5, 6)], plain(row)), ties.ends(1))

    def test_never_there(self):
        for ties in (Ties(), filled()):
            for number in (-HUGE, -4, -1, 4, 5, HUGE):
                self.assert_refused(NoTie, ties.ends, number)
                self.assert_refused(NoTie, ties.untie, number)

    def test_untied(self):
        ties = filled()
        before = all_told(ties)
        self.assert_refused(NoTie, ties.ends, 1)
        self.assert_refused(NoTie, ties.untie, 1)
        self.assertEqual(before, all_told(ties))
        self.assertEqual(4, ties.tie([], []))

    def test_the_others_stay(self):
        ties = filled()
        self.assertEqual([0, 2, 3], ties.live())
        self.assertEqual(([(11, 12), (5, 6)], [(2, 4)]), ties.ends(2))


class Lying(Case):
    def test_by_either_end(self):
        ties = filled()
        self.assertEqual(([0], [0], []), (ties.on([(0, 1)]), ties.leaving([(0, 1)]), ties.coming([(0, 1)])))
        self.assertEqual(([0, 2], [0], [2]), (ties.on([(2, 3)]), ties.leaving([(2, 3)]), ties.coming([(2, 3)])))
        self.assertEqual(([0, 2], [2], [0]), (ties.on([(11, 13)]), ties.leaving([(11, 13)]), ties.coming([(11, 13)])))
        self.assertEqual([3], ties.on([(8, 9)]))
        self.assertEqual([0, 2, 3], ties.on([(8, 9), (5, 6), (1, 2)]))

    def test_by_both_ends_it_is_told_once(self):
        ties = tied(([(0, 3)], [(2, 5)]))
        self.assertEqual(([0], [0], [0]), (ties.on([(2, 3)]), ties.leaving([(2, 3)]), ties.coming([(2, 3)])))
        self.assertEqual([0], ties.on([(0, 9), (2, 3)]))

    def test_side_by_side_is_not_in_common(self):
        ties = tied(([(3, 5)], [(8, 9)]))
        for row in ([(0, 3)], [(5, 8)], [(9, 20)], [(0, 3), (5, 8), (9, 10)]):
            self.assertEqual([], ties.on(row))

    def test_an_untied_one_lies_on_nothing(self):
        ties = tied(([(0, 3)], [(2, 5)]))
        ties.untie(0)
        self.assertEqual(([], [], []), (ties.on([(0, 9)]), ties.leaving([(0, 9)]), ties.coming([(0, 9)])))

    def test_a_row_without_addresses(self):
        ties = tied(([(0, 9)], [(0, 9)]), ([], []), ([(4, 4)], [(4, 4)]))
        for row in ([], [(4, 4)], [(0, 0), (9, 9), (3, 3)]):
            self.assertEqual(([], [], []), (ties.on(row), ties.leaving(row), ties.coming(row)))

    def test_an_end_without_addresses(self):
        ties = tied(([], []), ([(4, 4)], [(2, 3)]), ([(2, 3)], [(5, 5), (0, 0)]))
        row = [(0, 9), (4, 5)]
        self.assertEqual(([1, 2], [2], [1]), (ties.on(row), ties.leaving(row), ties.coming(row)))

    def test_all_small_ends_and_rows(self):
        rows = small_rows(2, 3)
        for one, other in itertools.product(rows, repeat=2):
            ties = tied((one, []), ([], one), (one, one), (one, [(1, 2)]))
            lies = bool(set(listed(one)) & set(listed(other)))
            bit = 1 in listed(other)
            self.assertEqual([0, 2, 3] if lies else [], ties.leaving(other))
            self.assertEqual(([1, 2] if lies else []) + ([3] if bit else []), ties.coming(other))
            self.assertEqual([0, 1, 2, 3] if lies else [3] if bit else [], ties.on(other))

    def test_long_rows(self):
        ties = tied(([(BIG, HUGE), (0, 5)], [(7, BIG)]), ([(HUGE - 1, HUGE)], []))
        self.assertEqual(([(BIG, HUGE), (0, 5)], [(7, BIG)]), ties.ends(0))
        for row, told in (([(0, HUGE)], ([0, 1], [0, 1], [0])), ([(5, 7)], ([], [], [])),
                          ([(BIG - 1, BIG)], ([0], [], [0])), ([(BIG, BIG + 1)], ([0], [0], [])),
                          ([(HUGE - 1, HUGE), (6, 7)], ([0, 1], [0, 1], []))):
            self.assertEqual(told, (ties.on(row), ties.leaving(row), ties.coming(row)))

    def test_small_rows_made_long(self):
        for one, other in itertools.product(small_rows(2, 2), repeat=2):
            small, long = tied((one, other)), tied((scaled(one, BIG), scaled(other, BIG)))
            for row in small_rows(1, 2):
                self.assertEqual(small.on(row), long.on(scaled(row, BIG)))
                self.assertEqual(small.leaving(row), long.leaving(scaled(row, BIG)))


class NothingIsShared(Case):
    def test_ties_do_not_know_of_one_another(self):
        one, other = Ties(), Ties()
        one.tie([(0, 1)], [(1, 2)])
        self.assertEqual(([], []), (other.live(), other.on([(0, 2)])))
        self.assertEqual(0, other.tie([], []))

    def test_what_is_handed_in_stays_and_may_be_changed(self):
        for row in ([], [(1, 3)], [(1, 3), (5, 7)], [(1, 3), (3, 4), (6, 6)]):
            ties, one, other = Ties(), list(row), list(row)
            ties.tie(one, other)
            self.assertEqual((row, row), (one, other))
            before = all_told(ties)
            spoil(one)
            other.clear()
            self.assertEqual(before, all_told(ties))

    def test_the_same_list_as_both_ends(self):
        ties, row = Ties(), [(1, 3)]
        ties.tie(row, row)
        ties.ends(0)[0].append((5, 6))
        self.assertEqual(([(1, 3)], [(1, 3)]), ties.ends(0))

    def test_rows_that_are_asked_for_stay(self):
        ties = filled()
        for doing in (ties.on, ties.leaving, ties.coming):
            for row in ([], [(0, 3), (2, 4)], [(11, 12), (3, 3)]):
                self.assert_apart(doing, list(row))

    def test_what_is_told_may_be_changed(self):
        ties = filled()
        before = all_told(ties)
        for number in ties.live():
            for end in ties.ends(number):
                spoil(end)
        for told in (ties.live(), ties.on([(0, 20)]), ties.leaving([(0, 20)]), ties.coming([(0, 20)])):
            spoil(told)
        self.assertEqual(before, all_told(ties))

    def test_what_was_told_stays_as_it_was(self):
        ties = filled()
        live, ends = ties.live(), ties.ends(2)
        ties.untie(2)
        ties.tie([(0, 1)], [(0, 1)])
        self.assertEqual(([0, 2, 3], ([(11, 12), (5, 6)], [(2, 4)])), (live, ends))


if __name__ == "__main__":
    unittest.main()
