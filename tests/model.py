"""A library as the document words it, over plain lists and without any of the program's code.

A sheet's row is a list of cells: an address by itself, or ("win", sheet). Each moment's rows are kept whole.
"""


class Refused(Exception):
    """A refusal, made with its name."""


def cells_of(items):
    """A row of items as cells."""
    told = []
    for item in items:
        told += [item] if item[0] == "win" else range(item[1], item[2])
    return told


def listed(row):
    return [address for start, stop in row for address in range(start, stop)]


def cell_shows(rows, cell):
    return shows(rows, cell[1]) if isinstance(cell, tuple) else [cell]


def shows(rows, sheet):
    """The list of addresses that a sheet shows."""
    return [address for cell in rows[sheet] for address in cell_shows(rows, cell)]


def weighs(rows, sheet):
    return sum(1 + weighs(rows, cell[1]) if isinstance(cell, tuple) else 1 for cell in rows[sheet])


def looks_upon(rows, sheet):
    """The sheets that stand as windows in a sheet."""
    return [cell[1] for cell in rows[sheet] if isinstance(cell, tuple)]


def is_ring(rows, way):
    """Whether a list of sheets is a ring."""
    steps = list(zip(way, way[1:]))
    return way[0] == way[-1] and len(steps) > 0 and all(other in looks_upon(rows, one) for one, other in steps)


def leads_back(rows, sheet):
    """Whether windows lead from a sheet to itself."""
    reached = set(looks_upon(rows, sheet))
    for step in rows:
        reached |= {other for one in reached for other in looks_upon(rows, one)}
    return sheet in reached


def dealt(rows, cells):
    """Each cell with what it shows, its first and its last place."""
    told, first = [], 0
    for cell in cells:
        signs = cell_shows(rows, cell)
        told.append((cell, signs, first, first + len(signs)))
        first += len(signs)
    return told


def put(rows, cells, place, others):
    ahead, behind = [], []
    for cell, signs, first, last in dealt(rows, cells):
        if first < place < last:
            ahead += signs[:place - first]
            behind += signs[place - first:]
        elif last <= place:
            ahead.append(cell)
        else:
            behind.append(cell)
    return ahead + others + behind if others else cells


def parted(rows, cells, start, stop):
    """What a cut leaves, and what it takes."""
    left, taken = [], []
    for cell, signs, first, last in dealt(rows, cells):
        between = [sign for place, sign in enumerate(signs, first) if start <= place < stop]
        rest = [sign for place, sign in enumerate(signs, first) if not start <= place < stop]
        if last <= start or first >= stop:
            left.append(cell)
        elif rest:
            left, taken = left + rest, taken + between
        else:
            taken.append(cell)
    return left, taken


class Model:
    def __init__(self):
        self.signs, self.owners, self.hidden = [], [], set()
        self.moments, self.tried = [[]], None
        self.ties, self.tied, self.grains = {}, 0, {}

    def do(self, deed):
        """Do a deed; a pair as a desk tells it."""
        self.tried = None
        try:
            return (True, {"pour": self.pour, "fresh": self.fresh, "put": self.put, "cut": self.cut, "move": self.move,
                           "quote": self.quote, "window": self.window, "fix": self.fix, "back": self.back,
                           "fork": self.fork, "strike": self.strike, "blot": self.blot, "lift": self.lift,
                           "tie": self.tie, "untie": self.untie, "read": self.read}[deed[0]](*deed[1:]))
        except Refused as refused:
            return (False, str(refused))

    def rows(self):
        return self.moments[-1]

    def step(self, changes):
        rows = [list(cells) for cells in self.rows()]
        for sheet, cells in changes.items():
            rows[sheet:sheet + 1] = [list(cells)]
        return rows

    def refuse(self, name, wrong):
        if wrong:
            raise Refused(name)

    def need_sheets(self, *sheets):
        for sheet in sheets:
            self.refuse("NoSheet", not 0 <= sheet < len(self.rows()))

    def need_then(self, sheet, moment):
        self.need_sheets(sheet)
        self.refuse("NoMoment", not 0 <= moment < len(self.moments))
        self.refuse("NoSheet", not sheet < len(self.moments[moment]))

    def need_places(self, sheet, start, stop):
        self.refuse("OutOfPlace", not 0 <= start <= stop <= len(shows(self.rows(), sheet)))

    def need_held(self, row):
        self.refuse("OutOfInk", not all(0 <= start < stop <= len(self.signs) for start, stop in row))

    def weave(self, sheet, cells):
        """Make the moment in which a sheet has these cells, unless there would be a ring or too much weight."""
        self.tried = self.step({sheet: cells})
        self.refuse("Ring", leads_back(self.tried, sheet))
        self.refuse("TooHeavy", any(weighs(self.tried, number) > 200 for number in range(len(self.tried))))
        self.moments.append(self.tried)

    def unfold(self, cells):
        """Open a sheet with these cells."""
        number = len(self.rows())
        self.refuse("TooMany", number >= 40)
        self.weave(number, cells)
        return number

    def pour(self, hand, text):
        self.signs += text
        self.owners += [hand] * len(text)
        self.moments.append(self.step({}))
        return (len(self.signs) - len(text), len(self.signs))

    def fresh(self):
        return self.unfold([])

    def put(self, sheet, place, row):
        self.need_sheets(sheet)
        self.need_places(sheet, place, place)
        self.need_held(row)
        self.weave(sheet, put(self.rows(), self.rows()[sheet], place, listed(row)))

    def cut(self, sheet, start, stop):
        self.need_sheets(sheet)
        self.need_places(sheet, start, stop)
        cells = self.rows()[sheet]
        self.weave(sheet, parted(self.rows(), cells, start, stop)[0] if start < stop else cells)

    def move(self, sheet, start, stop, to):
        self.need_sheets(sheet)
        self.need_places(sheet, start, stop)
        self.refuse("OutOfPlace", not 0 <= to <= len(shows(self.rows(), sheet)) - (stop - start))
        left, taken = parted(self.rows(), self.rows()[sheet], start, stop)
        self.weave(sheet, put(self.rows(), left, to, taken) if start < stop else self.rows()[sheet])

    def quote(self, target, place, source, start, stop):
        self.need_sheets(target, source)
        self.need_places(target, place, place)
        self.need_places(source, start, stop)
        self.weave(target, put(self.rows(), self.rows()[target], place, shows(self.rows(), source)[start:stop]))

    def window(self, target, place, source):
        self.need_sheets(target, source)
        self.need_places(target, place, place)
        self.weave(target, put(self.rows(), self.rows()[target], place, [("win", source)]))

    def fix(self, sheet):
        self.need_sheets(sheet)
        self.weave(sheet, shows(self.rows(), sheet))

    def back(self, sheet, moment):
        self.need_then(sheet, moment)
        self.weave(sheet, self.moments[moment][sheet])

    def fork(self, sheet, moment):
        self.need_then(sheet, moment)
        return self.unfold(self.moments[moment][sheet])

    def strike(self, row):
        self.need_held(row)
        gone = set(listed(row))
        self.moments.append([[cell for cell in cells if cell not in gone] for cells in self.rows()])

    def need_own(self, hand, row):
        self.need_held(row)
        self.refuse("NotYours", any(self.owners[address] != hand for address in listed(row)))

    def blot(self, hand, row):
        self.need_own(hand, row)
        self.hidden |= set(listed(row))
        self.moments.append(self.step({}))

    def lift(self, hand, row):
        self.need_own(hand, row)
        self.hidden -= set(listed(row))
        self.moments.append(self.step({}))

    def tie(self, one, other):
        self.need_held(one)
        self.need_held(other)
        self.ties[self.tied] = (listed(one), listed(other))
        self.tied += 1
        self.moments.append(self.step({}))
        return self.tied - 1

    def untie(self, number):
        self.refuse("NoTie", number not in self.ties)
        del self.ties[number]
        self.moments.append(self.step({}))

    def text(self, numbers):
        return "".join("#" if address in self.hidden else self.signs[address] for address in numbers)

    def read(self, sheet):
        self.need_sheets(sheet)
        for address in shows(self.rows(), sheet):
            if address not in self.hidden:
                self.grains[self.owners[address]] = self.grains.get(self.owners[address], 0) + 1
        self.moments.append(self.step({}))
        return self.text(shows(self.rows(), sheet))
