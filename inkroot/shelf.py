"""The shelf: every sheet's own row of items, at every moment."""

from inkroot.errors import NoMoment, NoSheet


def changed(state, sheet, items):
    """The rows of sheets with a new one for a sheet, which is opened if its number is their count."""
    if not 0 <= sheet <= len(state):
        raise NoSheet(f"no sheet {sheet} to change, nor to open behind {len(state)}")
    return state[:sheet] + [items] + state[sheet + 1:]


class Shelf:
    """Rows of sheets by moments; what windows look upon is not its affair."""

    def __init__(self):
        # For each moment the rows of the sheets that were there. Moments share what did not change between them, so
        # these lists are never changed, and told as copies alone.
        self.states = [[]]
        self.openings = []

    def step(self, changes):
        """Make one moment more, with new rows for some sheets, of which those that are not there yet are opened."""
        state = self.states[-1]
        ahead = len(state)
        for sheet, items in changes:
            state = changed(state, sheet, list(items))
        self.states.append(state)
        self.openings += [self.now()] * (len(state) - ahead)

    def many(self):
        """How many sheets are there."""
        return len(self.states[-1])

    def now(self):
        """The moment: how many steps were made."""
        return len(self.states) - 1

    def check_sheet(self, sheet):
        """Refuse a sheet that is not there."""
        if not 0 <= sheet < self.many():
            raise NoSheet(f"no sheet {sheet} among {self.many()}")

    def check_moment(self, moment):
        """Refuse a moment that is not there."""
        if not 0 <= moment <= self.now():
            raise NoMoment(f"no moment {moment} up to {self.now()}")

    def check_then(self, sheet, moment):
        """Refuse a sheet or a moment that is not there, and a sheet that was not there yet at the moment."""
        self.check_sheet(sheet)
        self.check_moment(moment)
        if moment < self.openings[sheet]:
            raise NoSheet(f"sheet {sheet} was not there yet at moment {moment}")

    def row(self, sheet):
        """The sheet's own row."""
        self.check_sheet(sheet)
        return list(self.states[-1][sheet])

    def row_then(self, sheet, moment):
        """The own row that the sheet had at a moment."""
        self.check_then(sheet, moment)
        return list(self.states[moment][sheet])

    def rows(self):
        """The own rows of all sheets."""
        return self.rows_then(self.now())

    def rows_then(self, moment):
        """The own rows at a moment of the sheets that were there."""
        self.check_moment(moment)
        return [list(items) for items in self.states[moment]]

    def opened(self, sheet):
        """The moment from which on the sheet is there."""
        self.check_sheet(sheet)
        return self.openings[sheet]
