"""Points [1], [2], [21] and [22] for what is written."""

import itertools
import re
import unittest

from inkroot.errors import NoDeed, NoRow
from inkroot.notes import read_deed, read_row, shown_deed, shown_row
from tests.helpers import Case, spoil

HUGE = 10 ** 60 - 1
ROWS = [
    ([], ""),
    ([("ink", 0, 0)], "0-0"),
    ([("win", 0)], "@0"),
    ([("ink", 3, 14), ("win", 39), ("win", 39), ("ink", 9, 10)], "3-14 @39 @39 9-10"),
    ([("ink", 5, 2), ("ink", 2, 7), ("ink", 7, 7)], "5-2 2-7 7-7"),
    ([("ink", 0, HUGE), ("win", HUGE), ("ink", HUGE, 10)], f"0-{HUGE} @{HUGE} {HUGE}-10"),
]
DEEDS = [
    (("pour", 3, "hello"), "pour 3 hello"),
    (("pour", 0, ""), "pour 0 "),
    (("pour", 0, " "), "pour 0  "),
    (("pour", HUGE, "  two  blanks  "), f"pour {HUGE}   two  blanks  "),
    (("pour", 12, "pour 3 x / 1-2 @4 #~!"), "pour 12 pour 3 x / 1-2 @4 #~!"),
    (("fresh",), "fresh"),
    (("put", 0, 12, [(3, 4), (4, 9)]), "put 0 12 3-4 4-9"),
    (("put", 39, 0, []), "put 39 0"),
    (("put", 1, 2, [(9, 3), (5, 5)]), "put 1 2 9-3 5-5"),
    (("cut", 0, 10, 2), "cut 0 10 2"),
    (("cut", HUGE, HUGE, HUGE), f"cut {HUGE} {HUGE} {HUGE}"),
    (("move", 1, 2, 3, 4), "move 1 2 3 4"),
    (("quote", 5, 4, 3, 2, 10), "quote 5 4 3 2 10"),
    (("window", 7, 0, 8), "window 7 0 8"),
    (("fix", 0), "fix 0"),
    (("back", 2, 100), "back 2 100"),
    (("fork", 20, 0), "fork 20 0"),
    (("strike", []), "strike"),
    (("strike", [(0, HUGE)]), f"strike 0-{HUGE}"),
    (("strike", [(1, 2), (2, 3), (1, 2)]), "strike 1-2 2-3 1-2"),
    (("blot", 6, []), "blot 6"),
    (("blot", 6, [(0, 1)]), "blot 6 0-1"),
    (("lift", 0, []), "lift 0"),
    (("lift", 10, [(0, 1), (8, 3)]), "lift 10 0-1 8-3"),
    (("tie", [(1, 2)], [(3, 4)]), "tie 1-2 / 3-4"),
    (("tie", [], [(3, 4)]), "tie / 3-4"),
    (("tie", [(3, 4)], []), "tie 3-4 /"),
    (("tie", [], []), "tie /"),
    (("tie", [(1, 2), (9, 5)], [(0, 0), (7, 8), (8, 9)]), "tie 1-2 9-5 / 0-0 7-8 8-9"),
    (("untie", 0), "untie 0"),
    (("read", 17), "read 17"),
]
# What writes no number: too many figures, noughts ahead, other signs, none.
NO_NUMBERS = ["", "1" + "0" * 60, "9" * 61, "0" * 60, "00", "01", "007", "-1", "+1", "1.0", "1e3", "x", "1x", "0x1",
              "1_0", "-0", "#", "@", "1,2", "'1'"]


class Rows(Case):
    def test_written_and_read(self):
        for items, text in ROWS:
            self.assertEqual(text, shown_row(items))
            self.assertEqual(items, read_row(text))

    def test_what_is_read_is_a_list_of_tuples(self):
        told = read_row("3-14 @39")
        self.assertEqual((list, [tuple, tuple]), (type(told), [type(item) for item in told]))
        self.assertEqual([str, int, int, str, int], [type(thing) for item in told for thing in item])

    def test_numbers_of_sixty_figures(self):
        self.assertEqual([("win", HUGE), ("ink", HUGE, HUGE)], read_row(f"@{'9' * 60} {'9' * 60}-{'9' * 60}"))
        self.assertEqual([("win", 10 ** 59)], read_row("@1" + "0" * 59))

    def test_blanks_elsewhere(self):
        for text in (" ", "  ", " 1-2", "1-2 ", "1-2  3-4", " @1", "@1 ", "@1  @1", "@ 1", "1 -2", "1- 2"):
            self.assert_refused(NoRow, read_row, text)

    def test_words_of_another_form(self):
        for word in ("1", "1-", "-1", "-", "@", "@@1", "1@", "1-2-3", "1--2", "@1-2", "1-@2", "a", "ink", "win", "/",
                     "1/2", "1_2", "1-2,", "(1-2)", "@-1", "-1-2", "1--1", "#", "~", "1-2@3", "1-2;", "1:2"):
            for text in (word, f"0-1 {word}", f"{word} @0", f"@0 {word} 0-1"):
                self.assert_refused(NoRow, read_row, text)

    def test_words_with_what_is_no_number(self):
        for number in NO_NUMBERS:
            for text in (f"@{number}", f"{number}-2", f"2-{number}", f"1-2 @{number}"):
                self.assert_refused(NoRow, read_row, text)

    def test_all_short_texts(self):
        for many in range(6):
            for signs in itertools.product("01@- ", repeat=many):
                self.check_row("".join(signs))

    def check_row(self, text):
        """A text is read just where it is what its items are written as."""
        try:
            items = read_row(text)
        except NoRow:
            items = None
        words = [] if text == "" else text.split(" ")
        number = "(?:0|1[01]*)"
        if all(re.fullmatch(f"@{number}|{number}-{number}", word) for word in words):
            self.assertEqual(text, shown_row(items))
        else:
            self.assertIsNone(items, text)


class Deeds(Case):
    def test_written_and_read(self):
        for deed, text in DEEDS:
            self.assertEqual(text, shown_deed(deed))
            self.assertEqual(deed, read_deed(text))

    def test_every_deed_is_tried(self):
        names = "pour fresh put cut move quote window fix back fork strike blot lift tie untie read".split()
        self.assertEqual(sorted(names), sorted({deed[0] for deed, text in DEEDS}))

    def test_what_is_read_is_a_tuple_with_lists_of_tuples(self):
        for deed, text in DEEDS:
            told = read_deed(text)
            self.assertIs(tuple, type(told))
            self.assertEqual([type(thing) for thing in deed], [type(thing) for thing in told])
            for row in told:
                if isinstance(row, list):
                    self.assertEqual([tuple] * len(row), [type(stretch) for stretch in row])

    def test_a_pouring_however_long(self):
        for many in (200, 201, 5000, 200000):
            text = "ab " * many
            self.assertEqual(("pour", 4, text), read_deed(f"pour 4 {text}"))
            self.assertEqual(f"pour 4 {text}", shown_deed(("pour", 4, text)))

    def test_every_sign_is_poured(self):
        signs = "".join([chr(k) for k in range(32, 127) if k != 37])
        self.assertEqual(("pour", 4, signs), read_deed(f"pour 4 {signs}"))
        self.assertEqual(f"pour 4 {signs}", shown_deed(("pour", 4, signs)))

    def test_a_pouring_without_its_blank_or_hand(self):
        for text in ("pour", "pour ", "pour 3", "pour  ", "pour  3 x", "pour x", "pour x 3", "pour3 x", "pour -1 x",
                     "pour 03 x", f"pour 1{'0' * 60} x", "pour\tx", " pour 3 x", "Pour 3 x", "pour @3 x"):
            self.assert_refused(NoDeed, read_deed, text)

    def test_other_texts(self):
        for text in ("", " ", "  ", "fresh ", " fresh", "fresh 0", "Fresh", "FRESH", "fres", "freshh", "hello", "1", "@0",
                     "0-1", "0-1 @3", "/", "#", "ink 0 1", "win 3", "now", "many", "row 0", "text 0", "lines", "say fresh",
                     "fresh,", "fresh\n", "put", "strikes 0-1", "untie0", "fork 0 1 # again"):
            self.assert_refused(NoDeed, read_deed, text)

    def test_too_few_and_too_many_words(self):
        for deed, text in DEEDS:
            if deed[0] == "pour":
                continue
            for wrong in (f"{text} ", f" {text}", f"{text} x", text.replace(" ", "  ", 1) if " " in text else " "):
                self.assert_refused(NoDeed, read_deed, wrong)
            if not isinstance(deed[-1], list):
                self.assert_refused(NoDeed, read_deed, f"{text} 0")
                self.assert_refused(NoDeed, read_deed, f"{text} 0-1")
            numbers = [thing for thing in deed if isinstance(thing, int)]
            for many in range(len(numbers)):
                self.assert_refused(NoDeed, read_deed, " ".join([deed[0]] + [str(k) for k in numbers[:many]]))

    def test_what_is_no_number(self):
        for number in NO_NUMBERS:
            for deed, text in DEEDS:
                words = text.split(" ")
                for place in range(1, len(words) if deed[0] != "pour" else 2):
                    if words[place].isdigit():
                        wrong = words[:place] + [number] + words[place + 1:]
                        self.assert_refused(NoDeed, read_deed, " ".join(wrong))

    def test_what_is_no_stretch(self):
        for word in ["", "1", "-", "1-", "-1", "1-2-3", "1--2", "@1", "a-b", "1-2,", "1_2", "/", "1/2"] + [
                f"{number}-5" for number in NO_NUMBERS] + [f"5-{number}" for number in NO_NUMBERS]:
            for text in (f"put 0 0 {word}", f"put 0 0 0-1 {word}", f"put 0 0 {word} 0-1", f"strike {word}",
                         f"strike {word} 1-2", f"blot 1 {word}", f"lift 1 2-3 {word}", f"tie {word} / 1-2",
                         f"tie 1-2 / {word}", f"tie {word} /", f"tie / {word}", f"tie 1-2 {word} / 3-4"):
                self.assert_refused(NoDeed, read_deed, text)

    def test_ties_of_another_form(self):
        for text in ("tie", "tie ", "tie  ", "tie 1-2", "tie 1-2 3-4", "tie 1-2/3-4", "tie 1-2 /3-4", "tie 1-2/ 3-4",
                     "tie/", "tie / ", "tie  /", "tie 1-2 /  3-4", "tie 1-2  / 3-4", "tie / /", "tie // 1-2", "tie /1-2",
                     "tie 1-2 / 3-4 /", "tie 1-2 / 3-4 / 5-6", "tie 1 / 2", "tie 1-2 / @3", "tie 1-2 - 3-4", "/ tie"):
            self.assert_refused(NoDeed, read_deed, text)

    def test_all_small_ties_strikes_and_puts(self):
        rows = [list(row) for many in range(3) for row in itertools.product([(0, 1), (12, 3), (7, 7)], repeat=many)]
        for one, other in itertools.product(rows, repeat=2):
            for deed in (("tie", one, other), ("strike", one), ("put", 3, 4, other), ("blot", 5, one), ("lift", 6, other)):
                self.assertEqual(deed, read_deed(shown_deed(deed)))


class NothingIsShared(Case):
    def test_what_is_handed_in_stays(self):
        for items, text in ROWS:
            self.assert_apart(shown_row, list(items))
            self.assert_apart(read_row, text)
        for deed, text in DEEDS:
            given = tuple(list(thing) if isinstance(thing, list) else thing for thing in deed)
            shown_deed(given)
            self.assertEqual(deed, given)

    def test_what_is_read_may_be_changed(self):
        for deed, text in DEEDS:
            for thing in read_deed(text):
                if isinstance(thing, list):
                    spoil(thing)
            self.assertEqual(deed, read_deed(text))
        one, other = read_deed("tie 1-2 / 1-2")[1:]
        one.append((5, 6))
        self.assertEqual([(1, 2)], other)


if __name__ == "__main__":
    unittest.main()
