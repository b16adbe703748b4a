"""Dues: the grains that were paid to hands."""


class Dues:
    """The sums of all hands."""

    def __init__(self):
        self.sums = {}

    def pay(self, hand, many):
        """Pay so many grains to a hand."""
        self.sums[hand] = self.due(hand) + many

    def due(self, hand):
        """The sum that was paid to a hand."""
        return self.sums.get(hand, 0)

    def total(self):
        """All grains that were paid."""
        return sum(self.sums.values())

    def hands(self):
        """The rising list of the hands with a sum above nought."""
        return sorted([hand for hand in self.sums if self.sums[hand] > 0])
