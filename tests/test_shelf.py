"""Points [1], [8], [14] and [15] for the shelf."""

import copy
import random
import unittest

from inkroot.errors import NoMoment, NoSheet
from inkroot.shelf import Shelf
from tests.helpers import Case, spoil

HUGE = 10 ** 60 - 1
A, B, C = ("ink", 0, 3), ("ink", 7, 9), ("win", 1)


def stepped(*steps):
    """A new shelf behind these lists of changes."""
    shelf = Shelf()
    for changes in steps:
        shelf.step(changes)
    return shelf


def filled():
    """Sheet 0 from moment 1 on, sheets 1 and 2 from 3 on; moment 2 changes nothing, moment 4 sheets 2 and 0."""
    return stepped([(0, [A])], [], [(1, []), (2, [B, C])], [(2, [A, C]), (0, [])], [(1, [B])])


def all_told(shelf):
    """All that a shelf tells."""
    return (
        shelf.many(), shelf.now(), shelf.rows(),
        [(shelf.row(sheet), shelf.opened(sheet)) for sheet in range(shelf.many())],
        [shelf.rows_then(moment) for moment in range(shelf.now() + 1)],
        [[shelf.row_then(sheet, moment) for sheet in range(len(shelf.rows_then(moment)))]
         for moment in range(shelf.now() + 1)],
    )


class Moments(Case):
    def test_a_new_shelf(self):
        shelf = Shelf()
        self.assertEqual((0, 0, [], []), (shelf.many(), shelf.now(), shelf.rows(), shelf.rows_then(0)))

    def test_a_step_tells_nothing_and_makes_one_moment(self):
        shelf = Shelf()
        for many, changes in enumerate(([], [(0, [])], [], [(1, [A]), (2, [B])], [(0, [C]), (1, []), (2, [])]), 1):
            self.assertIsNone(shelf.step(changes))
            self.assertEqual(many, shelf.now())

    def test_every_row_of_every_moment(self):
        shelf = filled()
        self.assertEqual((3, 5), (shelf.many(), shelf.now()))
        self.assertEqual([[], [B], [A, C]], shelf.rows())
        self.assertEqual([[], [B], [A, C]], [shelf.row(sheet) for sheet in range(3)])
        self.assertEqual(
            [[], [[A]], [[A]], [[A], [], [B, C]], [[], [], [A, C]], [[], [B], [A, C]]],
            [shelf.rows_then(moment) for moment in range(6)],
        )
        self.assertEqual([[A], [A], [A], [], []], [shelf.row_then(0, moment) for moment in range(1, 6)])
        self.assertEqual([[], [], [B]], [shelf.row_then(1, moment) for moment in range(3, 6)])
        self.assertEqual([[B, C], [A, C], [A, C]], [shelf.row_then(2, moment) for moment in range(3, 6)])

    def test_a_step_without_changes_keeps_all_rows(self):
        shelf = filled()
        before = shelf.rows()
        shelf.step([])
        self.assertEqual((before, before, 3), (shelf.rows(), shelf.rows_then(6), shelf.many()))

    def test_changes_in_any_order(self):
        self.assertEqual([[B], [A], [C]], stepped([(0, []), (1, [])], [(2, [C]), (1, [A]), (0, [B])]).rows())

    def test_windows_are_not_looked_at(self):
        shelf = stepped([(0, [("win", 0), ("win", 39), ("win", HUGE)])], [(1, [("win", 0)])])
        self.assertEqual([[("win", 0), ("win", 39), ("win", HUGE)], [("win", 0)]], shelf.rows())

    def test_items_are_told_as_they_stand(self):
        items = [("ink", 5, HUGE), ("ink", 0, 5), ("win", 3), ("win", 3), ("ink", 5, 6)]
        told = stepped([(0, items)]).row(0)
        self.assertEqual(items, told)
        self.assertEqual((list, [tuple] * 5), (type(told), [type(item) for item in told]))


class Opening(Case):
    def test_opened_tells_the_moment_that_the_step_made(self):
        self.assertEqual([1, 3, 3], [filled().opened(sheet) for sheet in range(3)])
        self.assertEqual([3], [stepped([], [], [(0, [])]).opened(0)])

    def test_a_change_is_no_opening(self):
        shelf = filled()
        shelf.step([(1, [A]), (3, [A]), (0, [B])])
        self.assertEqual([1, 3, 3, 6], [shelf.opened(sheet) for sheet in range(4)])

    def test_two_in_one_step_by_the_count_as_it_is_by_then(self):
        shelf = stepped([(0, [A]), (1, [B])])
        self.assertEqual((2, 1, [[A], [B]]), (shelf.many(), shelf.now(), shelf.rows()))
        self.assertEqual([1, 1], [shelf.opened(0), shelf.opened(1)])
        shelf.step([(2, [C]), (0, [B]), (3, [])])
        self.assertEqual((4, [[B], [B], [C], []], [[A], [B]]), (shelf.many(), shelf.rows(), shelf.rows_then(1)))

    def test_more_than_forty_sheets(self):
        shelf = stepped(*[[(number, [("ink", number, number + 1)])] for number in range(60)])
        self.assertEqual((60, 60), (shelf.many(), shelf.now()))
        self.assertEqual([("ink", 59, 60)], shelf.row(59))
        self.assertEqual(list(range(1, 61)), [shelf.opened(sheet) for sheet in range(60)])


class Refusals(Case):
    def test_a_sheet_that_is_not_there(self):
        for shelf in (Shelf(), stepped([]), filled()):
            for sheet in (-HUGE, -1, shelf.many(), shelf.many() + 1, HUGE):
                self.assert_refused(NoSheet, shelf.row, sheet)
                self.assert_refused(NoSheet, shelf.opened, sheet)
                for moment in (-1, 0, shelf.now(), shelf.now() + 1):
                    self.assert_refused(NoSheet, shelf.row_then, sheet, moment)

    def test_a_moment_that_is_not_there(self):
        for shelf in (Shelf(), stepped([]), filled()):
            for moment in (-HUGE, -1, shelf.now() + 1, HUGE):
                self.assert_refused(NoMoment, shelf.rows_then, moment)
                for sheet in range(shelf.many()):
                    self.assert_refused(NoMoment, shelf.row_then, sheet, moment)

    def test_a_sheet_that_was_not_there_yet(self):
        shelf = filled()
        for sheet in range(3):
            for moment in range(shelf.opened(sheet)):
                self.assert_refused(NoSheet, shelf.row_then, sheet, moment)
            self.assertEqual(shelf.rows_then(shelf.opened(sheet))[sheet], shelf.row_then(sheet, shelf.opened(sheet)))

    def test_a_step_for_a_sheet_that_is_not_there_changes_nothing(self):
        for changes in ([(4, [])], [(-1, [])], [(3, []), (5, [])], [(4, []), (3, [])], [(0, [B]), (HUGE, [])],
                        [(0, [C]), (-3, [])]):
            shelf = filled()
            before = all_told(shelf)
            self.assert_refused(NoSheet, shelf.step, changes)
            self.assertEqual(before, all_told(shelf))


class ManySteps(Case):
    def test_against_a_copy_of_each_moment(self):
        for seed in range(20):
            chance, shelf, kept = random.Random(seed), Shelf(), [[]]
            for moment in range(1, 60):
                rows = copy.deepcopy(kept[-1])
                numbers = chance.sample(range(len(rows)), chance.randint(0, min(3, len(rows))))
                numbers += range(len(rows), len(rows) + chance.choice((0, 0, 1, 2)))
                changes = [(number, [("ink", moment, moment + number + 1)] * chance.randint(0, 2)) for number in numbers]
                for number, items in changes:
                    rows[number:number + 1] = [list(items)]
                kept.append(rows)
                shelf.step(changes)
            self.assertEqual((len(kept[-1]), 59), (shelf.many(), shelf.now()))
            for moment, rows in enumerate(kept):
                self.assertEqual(rows, shelf.rows_then(moment))
                for sheet in range(shelf.many()):
                    if sheet < len(rows):
                        self.assertEqual(rows[sheet], shelf.row_then(sheet, moment))
                        self.assertLessEqual(shelf.opened(sheet), moment)
                    else:
                        self.assert_refused(NoSheet, shelf.row_then, sheet, moment)
                        self.assertGreater(shelf.opened(sheet), moment)


class NothingIsShared(Case):
    def test_shelves_do_not_know_of_one_another(self):
        one, other = Shelf(), Shelf()
        one.step([(0, [A])])
        self.assertEqual((0, 0, []), (other.many(), other.now(), other.rows()))

    def test_what_is_handed_in_stays_and_may_be_changed(self):
        shelf, items, more = filled(), [A, C], [B]
        changes = [(3, items), (0, more), (4, items)]
        shelf.step(changes)
        self.assertEqual([(3, [A, C]), (0, [B]), (4, [A, C])], changes)
        before = all_told(shelf)
        for thing in (items, more, changes):
            spoil(thing)
        self.assertEqual(before, all_told(shelf))
        self.assertEqual([[B], [B], [A, C], [A, C], [A, C]], shelf.rows())

    def test_the_list_of_changes_may_be_handed_in_again(self):
        shelf, changes = stepped([(0, [])]), [(0, [A])]
        shelf.step(changes)
        changes[0][1].append(C)
        shelf.step(changes)
        self.assertEqual([[[A]], [[A, C]]], [shelf.rows_then(2), shelf.rows_then(3)])

    def test_what_is_told_may_be_changed(self):
        for shelf in (Shelf(), stepped([(0, [A])], []), filled()):
            before = all_told(shelf)
            spoil(shelf.rows())
            for moment in range(shelf.now() + 1):
                told = shelf.rows_then(moment)
                for items in told:
                    items.append(B)
                told.append([])
                for sheet in range(len(told) - 1):
                    spoil(shelf.row_then(sheet, moment))
            for sheet in range(shelf.many()):
                spoil(shelf.row(sheet))
            self.assertEqual(before, all_told(shelf))
            shelf.step([])
            self.assertEqual(before[2], shelf.rows())

    def test_what_was_told_stays_as_it_was(self):
        shelf = filled()
        told = [shelf.rows(), shelf.rows_then(4), shelf.row(0), shelf.row_then(0, 4)]
        before = copy.deepcopy(told)
        shelf.step([(0, [C, C]), (3, [A])])
        self.assertEqual(before, told)

    def test_a_told_row_may_be_handed_in(self):
        shelf = filled()
        told = shelf.row_then(0, 1)
        shelf.step([(1, told)])
        told.append(B)
        self.assertEqual([[A], [A]], [shelf.row(1), shelf.row_then(0, 1)])

    def test_questions_make_no_moment(self):
        shelf = filled()
        before = all_told(shelf)
        self.assert_refused(NoSheet, shelf.row, 9)
        self.assert_refused(NoMoment, shelf.rows_then, 9)
        self.assertEqual(before, all_told(shelf))


if __name__ == "__main__":
    unittest.main()
