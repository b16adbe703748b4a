"""Points [12] to [19] and [23]: many deeds, done on a library and on a model of it, must tell and leave the same."""

import random
import unittest

from inkroot.desk import Desk, does, relived
from inkroot.errors import InkError, Ring
from inkroot.notes import read_deed, shown_deed
from inkroot.spans import drawn
from tests.helpers import Case
from tests.model import Model, cells_of, is_ring, shows, weighs

SIGNS = "aab #"
BEGINNING = [("pour", 0, "aab#"), ("fresh",), ("pour", 1, "ab # a"), ("fresh",), ("pour", 0, ""), ("fresh",), ("fresh",)]
NAMES = (
    ["pour", "fresh", "cut", "fix", "fork", "strike", "blot", "lift", "tie", "untie", "read"]
    + ["put", "move", "quote", "back"] * 3 + ["window"] * 5
)


class Chance:
    """Deeds by chance, most of them such that they are not refused."""

    def __init__(self, seed, model, heavy):
        self.random = random.Random(seed)
        self.model = model
        self.heavy = heavy

    def upto(self, most):
        """A number from 0 to most, now and then one beyond."""
        if self.random.random() < 0.04:
            return self.random.choice((-1, most + 1, most + 50, -10 ** 59, 10 ** 59))
        return self.random.randint(0, max(most, 0))

    def sheet(self):
        return self.upto(len(self.model.rows()) - 1)

    def size(self, sheet):
        rows = self.model.rows()
        return len(shows(rows, sheet)) if 0 <= sheet < len(rows) else 3

    def places(self, sheet):
        return sorted([self.upto(self.size(sheet)), self.upto(self.size(sheet))], reverse=self.random.random() < 0.03)

    def row(self):
        told = []
        for k in range(self.random.choice((0, 1, 1, 2, 3))):
            start = self.upto(len(self.model.signs) - 1)
            most = len(self.model.signs) if self.heavy else min(len(self.model.signs), start + 4)
            told.append((start, self.random.randint(start + 1, max(start + 1, most))))
        return told

    def own_row(self, hand):
        told = []
        for start, stop in self.row():
            held = range(max(start, 0), min(stop, len(self.model.owners)))
            told += drawn([address for address in held if self.model.owners[address] == hand])
        return told if self.random.random() < 0.7 else self.row()

    def deed(self):
        name, chance = self.random.choice(NAMES), self.random
        hand, sheet, source = chance.randint(0, 2), self.sheet(), self.sheet()
        moment = self.upto(len(self.model.moments) - 1)
        start, stop = self.places(sheet)
        arguments = {
            "pour": lambda: (hand, "".join(chance.choices(SIGNS, k=chance.randint(0, 60 if self.heavy else 6)))),
            "fresh": lambda: (),
            "put": lambda: (sheet, self.upto(self.size(sheet)), self.row()),
            "cut": lambda: (sheet, start, stop),
            "move": lambda: (sheet, start, stop, self.upto(self.size(sheet) - (stop - start))),
            "quote": lambda: (source, self.upto(self.size(source)), sheet, start, stop),
            "window": lambda: (sheet, self.upto(self.size(sheet)), source),
            "fix": lambda: (sheet,),
            "back": lambda: (sheet, moment),
            "fork": lambda: (sheet, moment),
            "strike": lambda: (self.row(),),
            "blot": lambda: (hand, self.own_row(hand)),
            "lift": lambda: (hand, self.own_row(hand)),
            "tie": lambda: (self.row(), self.row()),
            "untie": lambda: (self.upto(self.model.tied - 1),),
            "read": lambda: (sheet,),
        }[name]()
        return (name, *arguments)


class Same(Case):
    def check_ring(self, house, model, deed):
        """The refused deed's ring begins with the changed sheet and is one in the rows as they would be."""
        with self.assertRaises(Ring) as caught:
            does(house, deed)
        way = caught.exception.way
        self.assertEqual((list, deed[1]), (type(way), way[0]))
        self.assertTrue(is_ring(model.tried, way), (deed, way))

    def check_then(self, house, model):
        """Every moment's rows, shown rows and texts."""
        for moment, rows in enumerate(model.moments):
            for sheet in range(len(model.rows())):
                if sheet >= len(rows):
                    continue
                self.assertEqual(rows[sheet], cells_of(house.row_then(sheet, moment)))
                then, now = shows(rows, sheet), shows(model.rows(), sheet)
                self.assertEqual(drawn(then), house.shown_then(sheet, moment))
                self.assertEqual(model.text(then), house.text_then(sheet, moment))
                gone, come = sorted(set(then) - set(now)), sorted(set(now) - set(then))
                self.assertEqual((drawn(gone), drawn(come)), house.since(sheet, moment))

    def check_sheets(self, house, model):
        """What is told of every sheet now."""
        rows = model.rows()
        self.assertEqual((len(rows), len(model.moments) - 1), (house.many(), house.now()))
        for sheet in range(len(rows)):
            now = shows(rows, sheet)
            self.assertEqual(rows[sheet], cells_of(house.row(sheet)))
            for one, other in zip(house.row(sheet), house.row(sheet)[1:]):
                self.assertFalse(one[0] == other[0] == "ink" and one[2] == other[1])
            self.assertEqual(drawn(now), house.shown(sheet))
            self.assertEqual(model.text(now), house.text(sheet))
            self.assertEqual((len(now), weighs(rows, sheet)), (house.size(sheet), house.weight(sheet)))
            hands = [model.owners[address] for address in now]
            self.assertEqual([(hand, hands.count(hand)) for hand in sorted(set(hands))], house.shares(sheet))
            for word in ("", "a", "aa", "#", "ab", "b #"):
                self.assertEqual(self.word_places(model, now, word), house.found(sheet, word))

    def word_places(self, model, now, word):
        told = []
        for place in range(len(now)):
            cells = now[place:place + len(word)]
            if word and word == "".join(model.signs[k] for k in cells) and not model.hidden & set(cells):
                told.append(place)
        return told

    def check_rest(self, house, model):
        """What is told of ink, ties and dues now."""
        rows = model.rows()
        numbers = range(len(rows))
        self.assertEqual((len(model.signs), drawn(sorted(model.hidden))), (house.ink(), house.hidden()))
        for address in range(0, len(model.signs), 7):
            places = [(k, place) for k in numbers for place, sign in enumerate(shows(rows, k)) if sign == address]
            self.assertEqual(places, house.places(address))
            ties = [number for number, ends in model.ties.items() if address in ends[0] + ends[1]]
            self.assertEqual(ties, house.ties_on([(address, address + 1)]))
        for number, (one, other) in model.ties.items():
            self.assertEqual((drawn(one), drawn(other)), house.ends(number))
            places = [(k, place) for k in numbers for place, sign in enumerate(shows(rows, k)) if sign in other]
            self.assertEqual(places, house.followed(number))
        for sheet in numbers:
            now = set(shows(rows, sheet))
            ties = [number for number, ends in model.ties.items() if now & set(ends[0] + ends[1])]
            self.assertEqual(ties, house.ties_of(sheet))
        self.assertEqual([model.grains.get(hand, 0) for hand in range(4)], [house.due(hand) for hand in range(4)])
        self.assertEqual(sum(model.grains.values()), house.paid())

    def run_deeds(self, seed, many, heavy):
        """Do many deeds; how often each of them, and each refusal, came."""
        desk, model, book, seen = Desk(), Model(), [], []
        house, chance = desk.house, Chance(seed, model, heavy)
        for turn in range(many):
            deed = BEGINNING[turn] if turn < len(BEGINNING) else chance.deed()
            expected = model.do(deed)
            self.assertEqual(expected, self.tried(house, deed), deed)
            seen.append((deed[0], True if expected[0] else expected[1]))
            if expected == (False, "Ring"):
                self.check_ring(house, model, deed)
            if expected[0]:
                book.append(shown_deed(deed))
                self.assertEqual(deed, read_deed(book[-1]))
            self.assertEqual(book, house.lines())
            self.check_sheets(house, model)
        self.check_rest(house, model)
        self.check_then(house, model)
        again = relived(book)
        self.check_sheets(again, model)
        self.check_rest(again, model)
        self.check_then(again, model)
        self.assertEqual(book, again.lines())
        return seen

    def tried(self, house, deed):
        try:
            return (True, does(house, deed))
        except InkError as refused:
            return (False, type(refused).__name__)

    def assert_seen(self, pairs, seen):
        self.assertEqual([], [pair for pair in pairs if pair not in seen])

    def test_small_sheets(self):
        seen = {pair for seed in range(24) for pair in self.run_deeds(seed, 120, False)}
        self.assert_seen([(name, True) for name in NAMES], seen)
        self.assert_seen([(name, "NoSheet") for name in ("put", "cut", "move", "quote", "window", "fix", "read")], seen)
        self.assert_seen([(name, refusal) for name in ("back", "fork") for refusal in ("NoSheet", "NoMoment")], seen)
        self.assert_seen([(name, "OutOfPlace") for name in ("put", "cut", "move", "quote", "window")], seen)
        self.assert_seen([(name, "OutOfInk") for name in ("put", "strike", "tie")], seen)
        self.assert_seen([("blot", "NotYours"), ("lift", "NotYours"), ("untie", "NoTie")], seen)
        self.assert_seen([("window", "Ring"), ("back", "Ring")], seen)

    def test_heavy_sheets(self):
        seen = {pair for seed in range(16) for pair in self.run_deeds(seed, 120, True)}
        self.assert_seen([(name, "TooHeavy") for name in ("put", "quote", "window")], seen)


if __name__ == "__main__":
    unittest.main()
