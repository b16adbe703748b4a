"""The desk: deeds done on a library by their tuples and by their lines."""

from inkroot.errors import (
    NoDeed, NoMoment, NoSheet, NotYours, NoTie, OutOfInk, OutOfPlace, Ring, TooHeavy, TooMany,
)
from inkroot.library import Library
from inkroot.notes import read_deed


def does(house, deed):
    """Do a deed on a library; what the deed tells."""
    name = deed[0]
    if name == "pour":
        return house.pour(deed[1], deed[2])
    if name == "fresh":
        return house.fresh()
    if name == "put":
        return house.put(deed[1], deed[2], deed[3])
    if name == "cut":
        return house.cut(deed[1], deed[2], deed[3])
    if name == "move":
        return house.move(deed[1], deed[2], deed[3], deed[4])
    if name == "quote":
        return house.quote(deed[1], deed[2], deed[3], deed[4], deed[5])
    if name == "window":
        return house.window(deed[1], deed[2], deed[3])
    if name == "fix":
        return house.fix(deed[1])
    if name == "back":
        return house.back(deed[1], deed[2])
    if name == "fork":
        return house.fork(deed[1], deed[2])
    if name == "strike":
        return house.strike(deed[1])
    if name == "blot":
        return house.blot(deed[1], deed[2])
    if name == "lift":
        return house.lift(deed[1], deed[2])
    if name == "tie":
        return house.tie(deed[1], deed[2])
    if name == "untie":
        return house.untie(deed[1])
    if name == "read":
        return house.read(deed[1])
    raise NoDeed(f"no deed is called {name}")


def relived(lines):
    """A new library on which the lines were done one by one."""
    house = Library()
    for line in lines:
        does(house, read_deed(line))
    return house


class Desk:
    """A new library, and who reads lines to it."""

    def __init__(self):
        self.house = Library()

    def say(self, line):
        """Do a line; (True, what the deed tells), or (False, the refusal's name) where it is refused."""
        try:
            return (True, does(self.house, read_deed(line)))
        except NoDeed:
            return (False, "NoDeed")
        except NoSheet:
            return (False, "NoSheet")
        except NoMoment:
            return (False, "NoMoment")
        except NoTie:
            return (False, "NoTie")
        except OutOfPlace:
            return (False, "OutOfPlace")
        except OutOfInk:
            return (False, "OutOfInk")
        except NotYours:
            return (False, "NotYours")
        except TooMany:
            return (False, "TooMany")
        except Ring:
            return (False, "Ring")
        except TooHeavy:
            return (False, "TooHeavy")
