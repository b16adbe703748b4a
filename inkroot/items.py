"""A sheet's own row of items, and what it becomes by deeds; each function tells the sheet's new items."""

from inkroot.errors import OutOfPlace
from inkroot.spans import check_places, left_over, pieces, plain, size, spread
from inkroot.weave import item_row, shown, views_below


def goes_on(one, other):
    """Whether both are fixed quotes and the other starts where the one stops."""
    return one[0] == "ink" and other[0] == "ink" and one[2] == other[1]


def plain_items(items):
    """The plain form of the items."""
    told = []
    for item in items:
        if told and goes_on(told[-1], item):
            told[-1] = ("ink", told[-1][1], item[2])
        else:
            told.append(item)
    return told


def inked(row):
    """A row's stretches as plain items."""
    return [("ink", start, stop) for start, stop in plain(row)]


def dealt(items, views):
    """For each item: the item, the row that it shows, its first and its last place."""
    told = []
    first = 0
    for item in items:
        row = item_row(item, views)
        last = first + size(row)
        told.append((item, row, first, last))
        first = last
    return told


def put_among(items, views, place, others):
    """The plain items with others put among them at a place that is there."""
    ahead = []
    behind = []
    for item, row, first, last in dealt(items, views):
        if last <= place:
            ahead.append(item)
        elif place <= first:
            behind.append(item)
        else:
            ahead += inked(pieces(row, 0, place - first))
            behind += inked(pieces(row, place - first, last - first))
    return plain_items(ahead + others + behind)


def parted(items, views, start, stop):
    """A pair of lists of items: what a cut leaves, and what it takes; start is below stop."""
    left = []
    taken = []
    for item, row, first, last in dealt(items, views):
        if last <= start or stop <= first:
            left.append(item)
        elif start <= first and last <= stop:
            taken.append(item)
        else:
            left += inked(pieces(row, 0, start - first) + pieces(row, stop - first, last - first))
            taken += inked(pieces(row, start - first, stop - first))
    return left, taken


def put_items(rows, sheet, place, items):
    """The sheet's items with others put in at a place."""
    views = views_below(rows, [sheet])
    check_places(views[sheet], place, place)
    # Where nothing is put, a window at the place must not be broken.
    if not items:
        return plain_items(rows[sheet])
    return put_among(rows[sheet], views, place, items)


def cut_items(rows, sheet, start, stop):
    """The sheet's items without what it shows from start to below stop."""
    views = views_below(rows, [sheet])
    check_places(views[sheet], start, stop)
    # Where nothing is cut, a window at the place must not be broken.
    if start == stop:
        return plain_items(rows[sheet])
    return plain_items(parted(rows[sheet], views, start, stop)[0])


def moved_items(rows, sheet, start, stop, to):
    """The sheet's items with what it shows from start to below stop moved to a place of what is left."""
    views = views_below(rows, [sheet])
    check_places(views[sheet], start, stop)
    rest = size(views[sheet]) - (stop - start)
    if not 0 <= to <= rest:
        raise OutOfPlace(f"no place {to} in the {rest} that are not moved")
    if start == stop:
        return plain_items(rows[sheet])
    left, taken = parted(rows[sheet], views, start, stop)
    return put_among(left, views, to, taken)


def fixed_items(rows, sheet):
    """The sheet's items with all windows made fixed quotes of what they show."""
    return inked(shown(rows, sheet))


def struck_items(rows, sheet, ink):
    """The sheet's items with all addresses of a row taken out of the fixed quotes."""
    holes = spread(ink)
    told = []
    for item in rows[sheet]:
        if item[0] == "win":
            told.append(item)
        else:
            told += inked(left_over(item[1], item[2], holes))
    return plain_items(told)
