"""Points [1] and [20] for common stretches."""

import itertools
import unittest

from inkroot.common import greatest
from tests.helpers import Case

HUGE = 10 ** 60 - 1


def by_words(ones, others):
    """All common stretches as the document words them: every triple, and of these those that none makes longer."""
    told = []
    for first, second in itertools.product(range(len(ones)), range(len(others))):
        for many in range(1, min(len(ones) - first, len(others) - second) + 1):
            if ones[first:first + many] != others[second:second + many]:
                continue
            ahead = first > 0 and second > 0 and ones[first - 1] == others[second - 1]
            behind = ones[first + many:first + many + 1] == others[second + many:second + many + 1] != []
            if not ahead and not behind:
                told.append((first, second, many))
    return told


class Greatest(Case):
    def test_nothing_in_common(self):
        for ones, others in (([], []), ([1], []), ([], [1]), ([1, 2, 3], [4, 5]), ([0], [1])):
            self.assertEqual([], greatest(ones, others))

    def test_one_stretch(self):
        self.assertEqual([(1, 2, 3)], greatest([9, 4, 5, 6, 8], [1, 2, 4, 5, 6, 7]))
        self.assertEqual([(0, 0, 1)], greatest([3], [3]))
        self.assertEqual([(2, 0, 2)], greatest([1, 2, 3, 4], [3, 4]))
        self.assertEqual([(0, 2, 2)], greatest([3, 4], [1, 2, 3, 4]))

    def test_several_by_rising_first_place_then_second(self):
        self.assertEqual([(0, 2, 2), (2, 0, 2)], greatest([1, 2, 3, 4], [3, 4, 1, 2]))
        self.assertEqual([(0, 1, 1), (0, 3, 1), (0, 5, 1)], greatest([7], [1, 7, 2, 7, 3, 7]))
        self.assertEqual([(1, 0, 1), (3, 0, 1)], greatest([1, 7, 2, 7], [7]))

    def test_addresses_need_not_rise(self):
        self.assertEqual([(0, 1, 3)], greatest([9, 2, 5], [1, 9, 2, 5]))
        self.assertEqual([(0, 2, 1), (1, 1, 1), (2, 0, 1)], greatest([1, 2, 3], [3, 2, 1]))

    def test_a_list_with_itself(self):
        self.assertEqual([(0, 0, 3)], greatest([4, 5, 6], [4, 5, 6]))
        same = [4, 5, 6]
        self.assertEqual([(0, 0, 3)], greatest(same, same))
        self.assertEqual([(0, 0, 4), (0, 2, 2), (2, 0, 2)], greatest([1, 2, 1, 2], [1, 2, 1, 2]))
        self.assertEqual([(0, 0, 3), (0, 1, 2), (0, 2, 1), (1, 0, 2), (2, 0, 1)], greatest([8] * 3, [8] * 3))

    def test_stretches_may_overlap(self):
        self.assertEqual([(0, 0, 2), (0, 1, 1), (1, 0, 1)], greatest([5, 5], [5, 5]))
        self.assertEqual([(0, 0, 2), (0, 1, 2), (0, 2, 1), (1, 0, 1)], greatest([5, 5], [5, 5, 5]))
        self.assertEqual([(0, 0, 2), (1, 2, 2)], greatest([1, 2, 3], [1, 2, 2, 3]))

    def test_all_small_lists(self):
        lists = [list(numbers) for many in range(5) for numbers in itertools.product((0, 1, 2), repeat=many)]
        for ones, others in itertools.product(lists, repeat=2):
            self.assertEqual(by_words(ones, others), greatest(ones, others), (ones, others))

    def test_longer_lists(self):
        for k in range(60):
            ones = [(k * place * place + place) % (k + 2) for place in range(25)]
            others = [(k + place * place) % (k + 3) for place in range(22)]
            for one, other in ((ones, others), (others, ones), (ones, ones), (ones, ones[3:] + ones[:3])):
                self.assertEqual(by_words(one, other), greatest(one, other))

    def test_huge_addresses(self):
        self.assertEqual([(1, 0, 2)], greatest([0, HUGE - 1, HUGE], [HUGE - 1, HUGE]))

    def test_as_many_signs_as_a_sheet_shows_and_more(self):
        told = greatest([6] * 300, [6] * 300)
        self.assertEqual(599, len(told))
        self.assertEqual(((0, 0, 300), (299, 0, 1)), (told[0], told[-1]))
        numbers = list(range(2000))
        self.assertEqual([(0, 0, 2000)], greatest(numbers, numbers))

    def test_triples_are_tuples_in_a_list(self):
        told = greatest([1, 2], [2, 1])
        self.assertEqual((list, [tuple, tuple]), (type(told), [type(triple) for triple in told]))


class NothingIsShared(Case):
    def test_what_is_handed_in_and_told_is_apart(self):
        for ones, others in (([], []), ([1, 2, 3], [2, 3, 1]), ([4, 4], [4, 4, 4]), ([1], [2])):
            self.assert_apart(greatest, list(ones), list(others))

    def test_one_list_handed_in_twice(self):
        same = [3, 3, 4]
        self.assert_apart(greatest, same, same)


if __name__ == "__main__":
    unittest.main()
