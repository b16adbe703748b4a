"""The interface of errors.py, with [13] for Ring and [14] for the names."""

import unittest

from inkroot import errors
from tests.helpers import Case

WITH_TEXT = [
    "NoSheet", "NoMoment", "NoTie", "OutOfPlace", "OutOfInk", "NotYours", "TooMany", "TooHeavy", "NoRow", "NoDeed",
]


class Names(Case):
    def test_ink_error_is_straight_under_value_error(self):
        self.assertEqual((ValueError,), errors.InkError.__bases__)

    def test_each_refusal_is_straight_under_ink_error(self):
        for name in WITH_TEXT + ["Ring"]:
            with self.subTest(name):
                kind = getattr(errors, name)
                self.assertEqual(name, kind.__name__)
                self.assertEqual((errors.InkError,), kind.__bases__)

    def test_there_are_no_other_refusals(self):
        kinds = {kind.__name__ for kind in errors.InkError.__subclasses__()}
        self.assertEqual(set(WITH_TEXT + ["Ring"]), kinds)

    def test_each_but_ring_is_made_with_a_text(self):
        for name in WITH_TEXT + ["InkError"]:
            with self.subTest(name):
                kind = getattr(errors, name)
                self.assertEqual("some words", str(kind("some words")))

    def test_each_is_taken_by_its_name_and_by_the_ones_above(self):
        def refuse(kind, given):
            raise kind(given)

        for name in WITH_TEXT:
            with self.subTest(name):
                kind = getattr(errors, name)
                self.assert_refused(kind, refuse, kind, "words")
        self.assert_refused(errors.Ring, refuse, errors.Ring, [1, 1])

    def test_one_refusal_is_not_taken_for_another(self):
        for name in WITH_TEXT:
            for other in WITH_TEXT + ["Ring"]:
                if name != other:
                    self.assertNotIsInstance(getattr(errors, name)("words"), getattr(errors, other))


class TheWayOfARing(Case):
    def test_way_is_the_list_as_it_was_handed_in(self):
        for way in ([], [0, 0], [3, 1, 2, 3], [1, 0, 1, 0, 1]):
            with self.subTest(way):
                ring = errors.Ring(way)
                self.assertIs(list, type(ring.way))
                self.assertEqual(way, ring.way)

    def test_way_is_a_list_of_its_own(self):
        handed = [3, 1, 3]
        ring = errors.Ring(handed)
        handed.append(4)
        self.assertEqual([3, 1, 3], ring.way)
        ring.way.clear()
        self.assertEqual([3, 1, 3, 4], handed)

    def test_words_keep_nothing_of_the_list(self):
        handed = [3, 1, 3]
        ring = errors.Ring(handed)
        words = str(ring)
        handed.clear()
        self.assertEqual(words, str(ring))

    def test_two_rings_have_each_a_way(self):
        handed = [2, 2]
        one, other = errors.Ring(handed), errors.Ring(handed)
        one.way.append(5)
        self.assertEqual([2, 2], other.way)


if __name__ == "__main__":
    unittest.main()
