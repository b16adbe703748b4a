"""What the tests share: a test case that knows refusals and kept lists, small rows to try, sheets as plain lists, and all
that a library tells."""

import copy
import itertools
import unittest

from inkroot.desk import relived
from inkroot.errors import InkError


class Case(unittest.TestCase):
    def assert_refused(self, kind, doing, *given):
        """The call is refused with this very class, and may be taken as any refusal and as a ValueError."""
        for taken in (kind, InkError, ValueError):
            with self.assertRaises(taken) as caught:
                doing(*given)
            self.assertIs(type(caught.exception), kind)

    def assert_apart(self, doing, *given):
        """The call changes nothing that is handed in, and what it tells shares no list with it or with a later answer."""
        before = copy.deepcopy(given)
        told = doing(*given)
        self.assertEqual(before, given)
        if isinstance(told, list):
            first = copy.deepcopy(told)
            spoil(told)
            self.assertEqual(before, given)
            told = doing(*given)
            self.assertEqual(first, told)
            for thing in given:
                if isinstance(thing, list):
                    spoil(thing)
            self.assertEqual(first, told)


def spoil(thing):
    """Change a list, and each list within it."""
    for inner in thing:
        if isinstance(inner, list):
            spoil(inner)
    thing.append((7, 9))
    thing.reverse()
    thing.pop()
    thing.insert(0, (5, 6))


def small_rows(many, top):
    """All rows of at most so many stretches with addresses below top."""
    stretches = [(start, stop) for stop in range(top + 1) for start in range(stop + 1)]
    return [list(row) for count in range(many + 1) for row in itertools.product(stretches, repeat=count)]


def listed(row):
    return [address for start, stop in row for address in range(start, stop)]


def scaled(row, factor):
    return [(start * factor, stop * factor) for start, stop in row]


def item_shows(rows, item):
    """The list of addresses that an item shows."""
    if item[0] == "ink":
        return list(range(item[1], item[2]))
    return sheet_shows(rows, item[1])


def sheet_shows(rows, sheet):
    """The list of addresses that a sheet shows."""
    return [address for item in rows[sheet] for address in item_shows(rows, item)]


def quoted(numbers):
    """A list of addresses as fixed quotes of one sign each."""
    return [("ink", number, number + 1) for number in numbers]


def chain(many, bottom):
    """So many sheets, each with a window upon the next one alone; the last has the bottom items."""
    return [[("win", number + 1)] for number in range(many - 1)] + [list(bottom)]


def all_told(house):
    """All that a library tells; nothing of it is shared with the library."""
    sheets, moments = range(house.many()), range(house.now() + 1)
    numbers = range(0, house.ink(), house.ink() // 20 + 1)
    return copy.deepcopy([
        house.now(), house.many(), house.ink(), house.hidden(), house.lines(), house.paid(),
        [house.due(hand) for hand in range(12)],
        [told_of(house, sheet) for sheet in sheets],
        [tried(asked, sheet, moment) for sheet in sheets for moment in moments
         for asked in (house.row_then, house.shown_then, house.text_then, house.since)],
        [house.common(one, other) for one in sheets for other in sheets],
        [(house.places(address), house.ties_on([(address, address + 1)])) for address in numbers],
        [(tried(house.ends, number), tried(house.followed, number)) for number in range(6)],
    ])


def told_of(house, sheet):
    """What a library tells of a sheet now."""
    return [
        house.row(sheet), house.shown(sheet), house.text(sheet), house.size(sheet), house.weight(sheet),
        house.shares(sheet), house.ties_of(sheet), [house.found(sheet, word) for word in ("", "a", "#", "in", "ink")],
    ]


def tried(asked, *given):
    """What a question tells, or the name of its refusal."""
    try:
        return asked(*given)
    except InkError as refused:
        return type(refused).__name__


def library(*lines):
    """A new library behind these lines."""
    return relived(lines)
