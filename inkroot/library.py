"""A library: one well, sheets, blots, ties, dues, a count of moments, and the book of its deeds.

Each deed refuses first, in the document's order, and changes something only when nothing is left to refuse.
"""

from inkroot.blots import Blots
from inkroot.common import greatest
from inkroot.dues import Dues
from inkroot.errors import NotYours, OutOfInk, Ring, TooHeavy, TooMany
from inkroot.items import cut_items, fixed_items, inked, moved_items, put_items, struck_items
from inkroot.notes import shown_deed
from inkroot.shelf import Shelf, changed
from inkroot.spans import addresses, check_places, part, places, size, spread, within, without
from inkroot.ties import Ties
from inkroot.weave import ring, shown, views_below, weight, weights_below
from inkroot.well import Well

MOST_SHEETS = 40
MOST_WEIGHT = 200
HIDDEN = "#"
# Words have no line feed, so a hidden sign that is read so is no sign of any word.
NO_SIGN = "\n"


def check_weave(rows, sheet):
    """Refuse rows that a change of the sheet would bring into a ring, or make too heavy."""
    way = ring(rows, sheet)
    if way is not None:
        raise Ring(way)
    # Weights can be reckoned only where there is no ring.
    weights = weights_below(rows, list(range(len(rows))))
    for number in range(len(rows)):
        if weights[number] > MOST_WEIGHT:
            raise TooHeavy(f"sheet {number} would weigh {weights[number]}")


class Library:
    """All deeds and questions of a library."""

    def __init__(self):
        self.well = Well()
        self.shelf = Shelf()
        self.blots = Blots()
        self.knots = Ties()
        self.dues = Dues()
        self.book = []

    def enter(self, deed, changes):
        """Make the moment of a deed that is not refused, with the new rows of sheets."""
        self.book.append(shown_deed(deed))
        self.shelf.step(changes)

    def change(self, deed, sheet, items):
        """Give a sheet its new items, if the weave bears them."""
        check_weave(changed(self.shelf.rows(), sheet, items), sheet)
        self.enter(deed, [(sheet, items)])

    def begin(self, deed, items):
        """Open a sheet with these items; its number."""
        sheet = self.many()
        if sheet >= MOST_SHEETS:
            raise TooMany(f"there are {sheet} sheets")
        self.change(deed, sheet, items)
        return sheet

    def check_held(self, row):
        """Refuse a row that the well does not hold."""
        if not self.well.holds(row):
            raise OutOfInk(f"the row is not held by a well of {self.ink()}")

    def check_own(self, hand, row):
        """Refuse a row that the well does not hold, or of which the hand has not poured all."""
        self.check_held(row)
        if without(row, self.well.poured(hand)):
            raise NotYours(f"hand {hand} has not poured all of the row")

    def pour(self, hand, text):
        """Put a text into the well; its stretch."""
        stretch = self.well.pour(hand, text)
        self.enter(("pour", hand, text), [])
        return stretch

    def fresh(self):
        """Open a sheet with no items; its number."""
        return self.begin(("fresh",), [])

    def put(self, sheet, place, row):
        """Put a row of ink in a sheet, as fixed quotes."""
        check_places(self.shown(sheet), place, place)
        self.check_held(row)
        items = put_items(self.shelf.rows(), sheet, place, inked(row))
        self.change(("put", sheet, place, row), sheet, items)

    def cut(self, sheet, start, stop):
        """Cut places out of a sheet."""
        self.shelf.check_sheet(sheet)
        items = cut_items(self.shelf.rows(), sheet, start, stop)
        self.change(("cut", sheet, start, stop), sheet, items)

    def move(self, sheet, start, stop, to):
        """Move places of a sheet to a place of the rest."""
        self.shelf.check_sheet(sheet)
        items = moved_items(self.shelf.rows(), sheet, start, stop, to)
        self.change(("move", sheet, start, stop, to), sheet, items)

    def quote(self, target, place, source, start, stop):
        """Put what the source shows at places in the target, as fixed quotes."""
        self.shelf.check_sheet(target)
        row = part(self.shown(source), start, stop)
        items = put_items(self.shelf.rows(), target, place, inked(row))
        self.change(("quote", target, place, source, start, stop), target, items)

    def window(self, target, place, source):
        """Put a living window upon the source in the target."""
        self.shelf.check_sheet(target)
        self.shelf.check_sheet(source)
        items = put_items(self.shelf.rows(), target, place, [("win", source)])
        self.change(("window", target, place, source), target, items)

    def fix(self, sheet):
        """Make all windows of a sheet fixed quotes."""
        self.shelf.check_sheet(sheet)
        self.change(("fix", sheet), sheet, fixed_items(self.shelf.rows(), sheet))

    def back(self, sheet, moment):
        """Give a sheet its own row of a moment again."""
        self.change(("back", sheet, moment), sheet, self.row_then(sheet, moment))

    def fork(self, sheet, moment):
        """Open a sheet with the own row that another one had at a moment; its number."""
        return self.begin(("fork", sheet, moment), self.row_then(sheet, moment))

    def strike(self, row):
        """Take all addresses of a row out of the fixed quotes of every sheet."""
        self.check_held(row)
        rows = self.shelf.rows()
        self.enter(("strike", row), [(sheet, struck_items(rows, sheet, row)) for sheet in range(len(rows))])

    def blot(self, hand, row):
        """Hide ink that the hand poured."""
        self.check_own(hand, row)
        self.blots.blot(row)
        self.enter(("blot", hand, row), [])

    def lift(self, hand, row):
        """Hide ink that the hand poured no more."""
        self.check_own(hand, row)
        self.blots.lift(row)
        self.enter(("lift", hand, row), [])

    def tie(self, one, other):
        """Tie two rows of ink; the tie's number."""
        self.check_held(one)
        self.check_held(other)
        number = self.knots.tie(one, other)
        self.enter(("tie", one, other), [])
        return number

    def untie(self, number):
        """Take a tie away."""
        self.knots.untie(number)
        self.enter(("untie", number), [])

    def read(self, sheet):
        """Tell a sheet's text, and pay the hands that poured what can be read of it."""
        bare = without(self.shown(sheet), self.hidden())
        for hand, many in self.poured_by(bare):
            self.dues.pay(hand, many)
        self.enter(("read", sheet), [])
        return self.text(sheet)

    def views(self):
        """What each sheet shows now, a list of plain rows."""
        sheets = list(range(self.many()))
        told = views_below(self.shelf.rows(), sheets)
        return [told[sheet] for sheet in sheets]

    def veiled(self, row, veil):
        """The signs of a row as a text, each hidden one as the veil."""
        return "".join([veil if self.blots.hides(address) else self.well.sign(address) for address in addresses(row)])

    def poured_by(self, row):
        """The pairs (hand, many) of a row's addresses, by rising hand."""
        counts = {}
        for address in addresses(row):
            hand = self.well.hand(address)
            counts[hand] = counts.get(hand, 0) + 1
        return sorted(counts.items())

    def now(self):
        """The moment: how many deeds were not refused."""
        return self.shelf.now()

    def many(self):
        """How many sheets are there."""
        return self.shelf.many()

    def ink(self):
        """The well's size."""
        return self.well.size()

    def row(self, sheet):
        """A sheet's own row of items."""
        return self.shelf.row(sheet)

    def row_then(self, sheet, moment):
        """A sheet's own row of items at a moment."""
        return self.shelf.row_then(sheet, moment)

    def shown(self, sheet):
        """The plain row of what a sheet shows."""
        self.shelf.check_sheet(sheet)
        return shown(self.shelf.rows(), sheet)

    def shown_then(self, sheet, moment):
        """The plain row of what a sheet showed at a moment."""
        self.shelf.check_then(sheet, moment)
        return shown(self.shelf.rows_then(moment), sheet)

    def text(self, sheet):
        """The text of what a sheet shows."""
        return self.veiled(self.shown(sheet), HIDDEN)

    def text_then(self, sheet, moment):
        """The text of what a sheet showed at a moment, hidden as it is now."""
        return self.veiled(self.shown_then(sheet, moment), HIDDEN)

    def size(self, sheet):
        """How many signs a sheet shows."""
        return size(self.shown(sheet))

    def weight(self, sheet):
        """A sheet's weight."""
        self.shelf.check_sheet(sheet)
        return weight(self.shelf.rows(), sheet)

    def found(self, sheet, word):
        """The rising list of places at which a sheet reads the word, with no sign of it hidden."""
        text = self.veiled(self.shown(sheet), NO_SIGN)
        if word == "":
            return []
        return [place for place in range(len(text)) if text[place:place + len(word)] == word]

    def places(self, address):
        """All pairs (sheet, place) that show the address, by rising sheet, then place."""
        self.well.check_address(address)
        return [(sheet, place) for sheet, row in enumerate(self.views()) for place in places(row, address)]

    def ends(self, number):
        """A tie's two ends, a pair of plain rows."""
        return self.knots.ends(number)

    def ties_on(self, row):
        """The rising list of the ties that lie on a row."""
        self.check_held(row)
        return self.knots.on(row)

    def ties_of(self, sheet):
        """The rising list of the ties that lie on what a sheet shows."""
        return self.knots.on(self.shown(sheet))

    def followed(self, number):
        """All pairs (sheet, place) that show an address of a tie's second end, by rising sheet, then place."""
        goal = spread(self.ends(number)[1])
        told = []
        for sheet, row in enumerate(self.views()):
            told += [(sheet, place) for place, address in enumerate(addresses(row)) if within(goal, address)]
        return told

    def since(self, sheet, moment):
        """What a sheet showed at a moment and not now, and the other way; a pair of rising plain rows."""
        then = self.shown_then(sheet, moment)
        row = self.shown(sheet)
        return (spread(without(then, row)), spread(without(row, then)))

    def common(self, one, other):
        """The common stretches of what two sheets show."""
        return greatest(addresses(self.shown(one)), addresses(self.shown(other)))

    def shares(self, sheet):
        """The pairs (hand, many) of the signs that a sheet shows, hidden ones too, by rising hand."""
        return self.poured_by(self.shown(sheet))

    def due(self, hand):
        """The grains that were paid to a hand."""
        return self.dues.due(hand)

    def paid(self):
        """All grains that were paid."""
        return self.dues.total()

    def hidden(self):
        """The plain row of what is hidden, rising, each address once."""
        return self.blots.row()

    def lines(self):
        """The book: all deeds that were not refused, as they are written, in order."""
        return list(self.book)
