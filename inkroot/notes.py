"""Rows of items and deeds as they are written, and read."""

from inkroot.errors import NoDeed, NoRow

FIGURES = "0123456789"
MOST_FIGURES = 60
# How many numbers stand behind the names of the deeds that have numbers alone.
NUMBERS = {
    "fresh": 0, "cut": 3, "move": 4, "quote": 5, "window": 3, "fix": 1, "back": 2, "fork": 2, "untie": 1, "read": 1,
}
# How many stand ahead of the row in the deeds that end with one row of ink.
NUMBERS_AHEAD = {"put": 2, "strike": 0, "blot": 1, "lift": 1}


def is_number(word):
    """Whether the word writes a number."""
    if not 1 <= len(word) <= MOST_FIGURES:
        return False
    if word[0] == "0" and word != "0":
        return False
    return all([sign in FIGURES for sign in word])


def is_stretch(word):
    """Whether the word writes a stretch."""
    start, dash, stop = word.partition("-")
    return is_number(start) and is_number(stop)


def read_stretch(word):
    """The stretch that the word writes."""
    start, dash, stop = word.partition("-")
    return (int(start), int(stop))


def shown_item(item):
    """An item as it is written."""
    if item[0] == "win":
        return f"@{item[1]}"
    return f"{item[1]}-{item[2]}"


def shown_row(items):
    """A row of items as it is written."""
    return " ".join([shown_item(item) for item in items])


def read_item(word):
    """The item that the word writes."""
    if word.startswith("@") and is_number(word[1:]):
        return ("win", int(word[1:]))
    if is_stretch(word):
        start, stop = read_stretch(word)
        return ("ink", start, stop)
    raise NoRow(f"no item is written {word}")


def read_row(text):
    """The row of items that the text writes."""
    # Parted at its blanks the empty text would be one word.
    if text == "":
        return []
    return [read_item(word) for word in text.split(" ")]


def ink_words(row):
    """The words that write a row of ink."""
    return [f"{start}-{stop}" for start, stop in row]


def shown_deed(deed):
    """A deed as it is written."""
    if deed[0] == "tie":
        return " ".join(["tie"] + ink_words(deed[1]) + ["/"] + ink_words(deed[2]))
    words = [deed[0]]
    for thing in deed[1:]:
        words += ink_words(thing) if isinstance(thing, list) else [f"{thing}"]
    return " ".join(words)


def read_numbers(words):
    """The numbers that a deed's words write."""
    if not all([is_number(word) for word in words]):
        raise NoDeed("a word writes no number")
    return [int(word) for word in words]


def read_ink(words):
    """The row of ink that a deed's words write."""
    if not all([is_stretch(word) for word in words]):
        raise NoDeed("a word writes no stretch")
    return [read_stretch(word) for word in words]


def read_pouring(rest):
    """The pouring whose hand and text are the rest of a line."""
    hand, blank, text = rest.partition(" ")
    if blank == "":
        raise NoDeed("no blank follows the hand")
    return ("pour", read_numbers([hand])[0], text)


def read_tie(words):
    """The tie whose two rows are these words."""
    if words.count("/") != 1:
        raise NoDeed("no one stroke parts the two rows")
    middle = words.index("/")
    return ("tie", read_ink(words[:middle]), read_ink(words[middle + 1:]))


def read_deed(text):
    """The deed that the text writes."""
    # A poured text may have any blanks, so that a pouring alone is not read by words.
    if text.startswith("pour "):
        return read_pouring(text[len("pour "):])
    name, *words = text.split(" ")
    if name == "tie":
        return read_tie(words)
    if name in NUMBERS and len(words) == NUMBERS[name]:
        return tuple([name] + read_numbers(words))
    if name in NUMBERS_AHEAD and len(words) >= NUMBERS_AHEAD[name]:
        many = NUMBERS_AHEAD[name]
        return tuple([name] + read_numbers(words[:many]) + [read_ink(words[many:])])
    raise NoDeed(f"no deed is written {name} with {len(words)} words")
