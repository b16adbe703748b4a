"""The well: all ink that was poured, each sign at an address of its own."""

from inkroot.errors import OutOfInk
from inkroot.spans import plain


class Well:
    """A row of signs to which hands pour more."""

    def __init__(self):
        self.signs = []
        self.owners = []
        self.pourings = {}

    def pour(self, hand, text):
        """Put a text behind all that was poured ahead; its stretch."""
        start = self.size()
        self.signs += list(text)
        self.owners += [hand] * len(text)
        stretch = (start, self.size())
        self.pourings.setdefault(hand, []).append(stretch)
        return stretch

    def size(self):
        """How many signs were poured."""
        return len(self.signs)

    def sign(self, address):
        """The sign at an address."""
        self.check_address(address)
        return self.signs[address]

    def hand(self, address):
        """The hand that poured the sign at an address."""
        self.check_address(address)
        return self.owners[address]

    def check_address(self, address):
        """Refuse an address outside the well."""
        if not 0 <= address < self.size():
            raise OutOfInk(f"no address {address} in a well of {self.size()}")

    def holds(self, row):
        """Whether each stretch of the row has ink, and lies in the well."""
        return all([0 <= start < stop <= self.size() for start, stop in row])

    def text(self, row):
        """The poured signs of a row."""
        if not self.holds(row):
            raise OutOfInk(f"the row is not held by a well of {self.size()}")
        return "".join([sign for start, stop in row for sign in self.signs[start:stop]])

    def poured(self, hand):
        """The plain row of all that the hand poured, rising."""
        return plain(self.pourings.get(hand, []))
