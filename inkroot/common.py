"""Common stretches of two lists of addresses."""


def spots(numbers):
    """For each address the rising list of its places."""
    told = {}
    for place, number in enumerate(numbers):
        told.setdefault(number, []).append(place)
    return told


def goes_ahead(ones, others, first, second):
    """Whether the addresses straight ahead of these two places are there and the same."""
    return first > 0 and second > 0 and ones[first - 1] == others[second - 1]


def run_length(ones, others, first, second):
    """How many addresses are the same from these two places on."""
    many = 0
    most = min(len(ones) - first, len(others) - second)
    while many < most and ones[first + many] == others[second + many]:
        many += 1
    return many


def greatest(ones, others):
    """All triples (place in the one, place in the other, many) that can be made longer at neither end."""
    told = []
    seconds = spots(others)
    for first, number in enumerate(ones):
        for second in seconds.get(number, []):
            if not goes_ahead(ones, others, first, second):
                told.append((first, second, run_length(ones, others, first, second)))
    return told
