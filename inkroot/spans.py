"""Stretches (start, stop) and rows of them: which addresses a row tells, and at which places.

All is reckoned by starts and stops, so that a stretch may have any length; `addresses` alone lists them.
"""

from inkroot.errors import OutOfPlace


def plain(row):
    """The plain row that tells the same addresses."""
    told = []
    for start, stop in row:
        if start == stop:
            continue
        if told and told[-1][1] == start:
            told[-1] = (told[-1][0], stop)
        else:
            told.append((start, stop))
    return told


def size(row):
    """How many addresses the row tells."""
    return sum([stop - start for start, stop in row])


def check_places(row, start, stop):
    """Refuse places that do not lie in the row."""
    if not 0 <= start <= stop <= size(row):
        raise OutOfPlace(f"no places from {start} to {stop} in a row of {size(row)}")


def pieces(row, start, stop):
    """What the row's stretches tell at places from start on, below stop; the row need not come out plain."""
    told = []
    ahead = 0
    for first, last in row:
        low = max(start - ahead, 0)
        high = min(stop - ahead, last - first)
        if low < high:
            told.append((first + low, first + high))
        ahead += last - first
    return told


def part(row, start, stop):
    """The plain row of what stands at places from start on, below stop."""
    check_places(row, start, stop)
    return plain(pieces(row, start, stop))


def at(row, place):
    """The address at a place of the row."""
    return part(row, place, place + 1)[0][0]


def joined(one, other):
    """The plain row of the one and then the other."""
    return plain(one + other)


def put_in(row, place, other):
    """The plain row with the other one put in at a place."""
    check_places(row, place, place)
    return plain(pieces(row, 0, place) + other + pieces(row, place, size(row)))


def cut_out(row, start, stop):
    """The plain row without what stands at places from start on, below stop."""
    check_places(row, start, stop)
    return plain(pieces(row, 0, start) + pieces(row, stop, size(row)))


def addresses(row):
    """The list of the row's addresses."""
    return [address for start, stop in row for address in range(start, stop)]


def drawn(numbers):
    """The plain row that tells a list of addresses."""
    return plain([(number, number + 1) for number in numbers])


def places(row, address):
    """The rising list of places at which the row tells the address."""
    told = []
    ahead = 0
    for start, stop in row:
        if start <= address < stop:
            told.append(ahead + address - start)
        ahead += stop - start
    return told


def spread(row):
    """The plain row of the row's addresses, rising, each once."""
    told = []
    for start, stop in sorted(plain(row)):
        if told and start <= told[-1][1]:
            told[-1] = (told[-1][0], max(told[-1][1], stop))
        else:
            told.append((start, stop))
    return told


def meets(one, other):
    """Whether an address is in both rows."""
    # What both have is counted once in the spread of the two, so this is smaller than the sum of their own.
    return size(spread(one + other)) < size(spread(one)) + size(spread(other))


def first_reaching(holes, start):
    """The place of the first hole that stops behind start; the holes rise and do not overlap."""
    low = 0
    high = len(holes)
    while low < high:
        middle = (low + high) // 2
        if holes[middle][1] > start:
            high = middle
        else:
            low = middle + 1
    return low


def within(holes, address):
    """Whether the address lies in one of the holes; these rise and do not overlap."""
    hole = first_reaching(holes, address)
    return hole < len(holes) and holes[hole][0] <= address


def left_over(start, stop, holes):
    """The stretches, some maybe empty, of one stretch outside the holes; these rise and do not overlap."""
    told = []
    left = start
    hole = first_reaching(holes, start)
    while hole < len(holes) and holes[hole][0] < stop:
        told.append((left, max(left, holes[hole][0])))
        left = min(holes[hole][1], stop)
        hole += 1
    told.append((left, stop))
    return told


def without(row, other):
    """The plain row of the row's addresses, in their order, that the other one has not."""
    holes = spread(other)
    return plain([piece for start, stop in row for piece in left_over(start, stop, holes)])
