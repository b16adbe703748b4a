"""Blots: which ink is hidden."""

from inkroot.spans import spread, within, without


class Blots:
    """Blotted and lifted rows, of which the last deed upon an address counts."""

    def __init__(self):
        self.stains = []

    def blot(self, row):
        """Hide all addresses of the row."""
        self.stains = spread(self.stains + row)

    def lift(self, row):
        """Hide no address of the row any more."""
        self.stains = without(self.stains, row)

    def hides(self, address):
        """Whether the address is hidden."""
        return within(self.stains, address)

    def row(self):
        """The plain row of what is hidden, rising, each address once."""
        return list(self.stains)
