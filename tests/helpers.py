"""What the tests share: a test case that knows refusals and kept lists, and small rows to try."""

import copy
import itertools
import unittest

from inkroot.errors import InkError


class Case(unittest.TestCase):
    def assert_refused(self, kind, doing, *given):
        """The call is refused with this very class, and may be taken as any refusal and as a ValueError."""
        for taken in (kind, InkError, ValueError):
            with self.assertRaises(taken) as caught:
                doing(*given)
            self.assertIs(type(caught.exception), kind)

    def assert_apart(self, doing, *given):
        """The call changes nothing that is handed in, and what it tells shares no list with it or with a later answer."""
        before = copy.deepcopy(given)
        told = doing(*given)
        self.assertEqual(before, given)
        if isinstance(told, list):
            first = copy.deepcopy(told)
            told.append((7, 9))
            told.reverse()
            self.assertEqual(before, given)
            told = doing(*given)
            self.assertEqual(first, told)
            for thing in given:
                if isinstance(thing, list):
                    thing.insert(0, (5, 6))
                    thing.pop()
                    thing.clear()
            self.assertEqual(first, told)


def small_rows(many, top):
    """All rows of at most so many stretches with addresses below top."""
    stretches = [(start, stop) for stop in range(top + 1) for start in range(stop + 1)]
    return [list(row) for count in range(many + 1) for row in itertools.product(stretches, repeat=count)]


def listed(row):
    return [address for start, stop in row for address in range(start, stop)]


def scaled(row, factor):
    return [(start * factor, stop * factor) for start, stop in row]
