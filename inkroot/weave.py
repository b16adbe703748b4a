"""What sheets show through their windows, what they weigh, and which sheets windows lead to.

Sheets are walked by lists of numbers, not by calls within calls: a chain of windows may be as long as there are sheets.
"""

from inkroot.spans import plain


def windows(items):
    """The sheets that stand as windows among the items, in their order."""
    return [item[1] for item in items if item[0] == "win"]


def below(rows, sheets):
    """The sheets and all that their windows lead to, each once and behind all that stand as windows in it."""
    told = {}
    waiting = list(sheets)
    while waiting:
        number = waiting[-1]
        missing = [other for other in windows(rows[number]) if other not in told]
        if missing:
            waiting.append(missing[0])
        else:
            told[number] = True
            waiting.pop()
    return list(told)


def item_row(item, views):
    """The row that an item shows, where views has the rows that sheets show."""
    if item[0] == "win":
        return views[item[1]]
    return [(item[1], item[2])]


def views_below(rows, sheets):
    """What the sheets and all that their windows lead to show: a dict of plain rows."""
    views = {}
    for number in below(rows, sheets):
        views[number] = plain([stretch for item in rows[number] for stretch in item_row(item, views)])
    return views


def shown(rows, sheet):
    """The plain row of what the sheet shows."""
    return views_below(rows, [sheet])[sheet]


def item_weight(item, weights):
    """What an item counts, where weights has what sheets weigh."""
    if item[0] == "win":
        return 1 + weights[item[1]]
    return item[2] - item[1]


def weights_below(rows, sheets):
    """What the sheets and all that their windows lead to weigh: a dict of whole numbers."""
    weights = {}
    for number in below(rows, sheets):
        weights[number] = sum([item_weight(item, weights) for item in rows[number]])
    return weights


def weight(rows, sheet):
    """The sheet's weight."""
    return weights_below(rows, [sheet])[sheet]


def way_between(rows, start, goal):
    """The sheets from start to goal, each behind the first a window in the one ahead, by a step or more; or None."""
    ways = [[start]]
    seen = {}
    while ways:
        way = ways.pop(0)
        for number in windows(rows[way[-1]]):
            if number == goal:
                return way + [goal]
            # A sheet is gone into once alone, or a ring that does not have the goal would never end.
            if number not in seen:
                seen[number] = True
                ways.append(way + [number])
    return None


def ring(rows, sheet):
    """A ring that begins with the sheet, or None."""
    return way_between(rows, sheet, sheet)


def above(rows, sheet):
    """The rising list of the other sheets whose windows lead to the sheet."""
    others = [number for number in range(len(rows)) if number != sheet]
    return [number for number in others if way_between(rows, number, sheet) is not None]
