"""Ties: pairs of rows of ink, each pair under a number of its own."""

from inkroot.errors import NoTie
from inkroot.spans import meets, plain


class Ties:
    """The ties that are there, by their numbers."""

    def __init__(self):
        self.given = 0
        self.pairs = {}

    def tie(self, one, other):
        """Tie two rows; the tie's number."""
        number = self.given
        self.pairs[number] = (plain(one), plain(other))
        # Counted apart from the pairs, or the number of an untied one would be given again.
        self.given += 1
        return number

    def check_tie(self, number):
        """Refuse a tie that is not there."""
        if number not in self.pairs:
            raise NoTie(f"no tie {number}")

    def untie(self, number):
        """Take a tie away."""
        self.check_tie(number)
        self.pairs.pop(number)

    def ends(self, number):
        """A tie's two ends, a pair of plain rows."""
        self.check_tie(number)
        one, other = self.pairs[number]
        return (list(one), list(other))

    def live(self):
        """The rising list of all ties that are there."""
        # Numbers came rising, and a dict keeps the order in which its keys came.
        return list(self.pairs)

    def leaving(self, row):
        """The rising list of the ties whose first end lies on the row."""
        return [number for number in self.live() if meets(self.pairs[number][0], row)]

    def coming(self, row):
        """The rising list of the ties whose second end lies on the row."""
        return [number for number in self.live() if meets(self.pairs[number][1], row)]

    def on(self, row):
        """The rising list of the ties that lie on the row by one end or both."""
        return sorted(set(self.leaving(row) + self.coming(row)))
