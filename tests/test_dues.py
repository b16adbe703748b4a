"""Points [1] and [19] for the dues."""

import unittest

from inkroot.dues import Dues
from tests.helpers import Case, spoil

HUGE = 10 ** 60 - 1


def paid(*pairs):
    """New dues behind these payments."""
    dues = Dues()
    for hand, many in pairs:
        dues.pay(hand, many)
    return dues


class Paying(Case):
    def test_new_dues(self):
        dues = Dues()
        self.assertEqual((0, 0, 0, []), (dues.due(0), dues.due(HUGE), dues.total(), dues.hands()))

    def test_sums(self):
        dues = paid((3, 5), (0, 2), (3, 1), (7, 4))
        self.assertEqual([2, 0, 0, 6, 0, 0, 0, 4], [dues.due(hand) for hand in range(8)])
        self.assertEqual((12, [0, 3, 7]), (dues.total(), dues.hands()))

    def test_a_payment_tells_nothing(self):
        self.assertIsNone(Dues().pay(1, 1))
        self.assertIsNone(Dues().pay(1, 0))

    def test_a_payment_of_nought(self):
        dues = paid((4, 0))
        self.assertEqual((0, 0, []), (dues.due(4), dues.total(), dues.hands()))
        dues = paid((4, 0), (4, 3), (4, 0), (2, 0))
        self.assertEqual((3, 3, [4]), (dues.due(4), dues.total(), dues.hands()))

    def test_hands_rise_whatever_the_order(self):
        self.assertEqual([0, 2, 9, 10, HUGE], paid((10, 1), (HUGE, 1), (9, 1), (2, 1), (10, 1), (0, 1)).hands())

    def test_huge_sums(self):
        dues = paid((1, HUGE), (HUGE, HUGE), (1, 1))
        self.assertEqual((10 ** 60, HUGE, 2 * HUGE + 1), (dues.due(1), dues.due(HUGE), dues.total()))

    def test_many_payments(self):
        pairs = [(k * k % 7, k % 4) for k in range(200)]
        dues = paid(*pairs)
        sums = [sum(many for hand, many in pairs if hand == k) for k in range(8)]
        self.assertEqual(sums, [dues.due(hand) for hand in range(8)])
        self.assertEqual((sum(sums), [k for k in range(8) if sums[k]]), (dues.total(), dues.hands()))


class NothingIsShared(Case):
    def test_dues_do_not_know_of_one_another(self):
        one, other = Dues(), Dues()
        one.pay(1, 5)
        self.assertEqual((0, 0, []), (other.due(1), other.total(), other.hands()))

    def test_a_told_list_may_be_changed(self):
        dues = paid((3, 5), (1, 2))
        spoil(dues.hands())
        dues.hands().clear()
        self.assertEqual(([1, 3], 5, 7), (dues.hands(), dues.due(3), dues.total()))

    def test_a_told_list_stays_as_it_was(self):
        dues = paid((3, 5))
        told = dues.hands()
        dues.pay(1, 1)
        self.assertEqual(([3], [1, 3]), (told, dues.hands()))

    def test_questions_change_nothing(self):
        dues = paid((3, 5))
        for hand in range(9):
            dues.due(hand)
        self.assertEqual(([3], 5), (dues.hands(), dues.total()))


if __name__ == "__main__":
    unittest.main()
