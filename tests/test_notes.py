import itertools
import unittest

from fourtell.notes import read, shown
from tests.checks import GREATEST, LEAST, Checks, Picks

EDGES = (0, 1, 9, 10, 99, 100, 123, 500, 990, 999)

# Every sign that a text may hold.
SIGNS = "\t\n" + "".join(chr(code) for code in range(ord(" "), ord("~") + 1) if chr(code) != "%")


def some_lists():
    picks = Picks(13)
    lists = [[number] for number in range(1000)]
    lists.extend([list(pair) for pair in itertools.product(EDGES, repeat=2)])
    for length in range(1, 7):
        lists.append([0] * length)
        lists.append([999] * length)
        lists.extend([picks.below(1000) for place in range(length)] for turn in range(100))
    return lists


class ThereAndBackTest(Checks):
    def test_written_notes(self):
        for numbers, text in (
            ([0], "0"),
            ([999], "999"),
            ([3, 1, 2], "3 1 2"),
            ([0, 0], "0 0"),
            ([10, 100, 0, 7, 999, 42], "10 100 0 7 999 42"),
        ):
            self.assertEqual(shown(numbers), text)
            self.assertEqual(read(text), numbers)

    def test_there_and_back(self):
        for numbers in some_lists():
            text = shown(numbers)
            self.assertEqual(text, " ".join(map(str, numbers)))
            self.assertEqual(read(text), numbers)
            self.assertEqual(shown(read(text)), text)

    def test_the_kinds(self):
        for numbers in some_lists()[-50:]:
            self.assertIs(type(shown(numbers)), str)
            self.whole_list(read(shown(numbers)))


class ReadRefusalsTest(Checks):
    def test_empty_texts_and_blanks(self):
        for text in ("", " ", "  ", " " * 200, " 1", "1 ", " 1 ", "1  2", "1   2", "1 2 ", " 1 2", "1 2  3", "  1"):
            self.refused("NoNote", read, text)

    def test_needless_noughts(self):
        for text in ("00", "01", "007", "000", "0000", "0999", "1 00", "1 02 3", "010", "0" * 200, "0 0 00"):
            self.refused("NoNote", read, text)

    def test_numbers_that_are_too_great(self):
        for text in ("1000", "1001", "9999", "1 1000", "1000 1", "1" * 200, str(GREATEST), "0 0 0 0 0 1000"):
            self.refused("NoNote", read, text)

    def test_too_many_numbers(self):
        for text in ("1 2 3 4 5 6 7", "0 0 0 0 0 0 0", " ".join(["1"] * 100), "9 " * 100):
            self.refused("NoNote", read, text)

    def test_signs_that_are_no_figures(self):
        wrong = ["+1", "-1", "-0", "+0", "1_0", "_1", "1_", "1\t2", "\t1", "1\t", "1\n", "\n1", "1\n2", "1 \n2", "\n"]
        wrong += ["\t", "1,2", "1.0", "0x1", "1e2", "a", "1 a", "[1]", "[1, 2]", "1;2", "(1)", "'1'", "--1", "1-2"]
        wrong += ["one", "1 -2", "1 +2", "1 2\n", "1 2\t", "1 \t2", "1\r", "1\r\n", "~", "!", "1~"]
        for text in wrong:
            self.refused("NoNote", read, text)

    def test_every_sign_at_every_place(self):
        for sign in SIGNS:
            if sign not in "0123456789":
                for text in (sign, sign + "12", "12" + sign, "12 " + sign, sign + " 12", "3 " + sign + "1", "1" + sign):
                    self.refused("NoNote", read, text)
                if sign != " ":
                    for text in ("1" + sign + "2", "3 1" + sign + "2", "1" + sign + "2 3"):
                        self.refused("NoNote", read, text)

    def test_every_short_text_of_some_signs(self):
        for length in range(6):
            for signs in itertools.product("01 -\n", repeat=length):
                text = "".join(signs)
                words = text.split(" ")
                if all(word in ("0", "1", "10", "11", "100", "101", "110", "111") for word in words):
                    self.assertEqual(read(text), [int(word) for word in words], text)
                else:
                    self.refused("NoNote", read, text)


class ShownRefusalsTest(Checks):
    def test_lengths_that_are_none(self):
        self.refused("NoNote", shown, [])
        for length in (7, 8, 12, 99, 100):
            self.refused("NoNote", shown, [0] * length)
            self.refused("NoNote", shown, list(range(length)))

    def test_numbers_that_are_none(self):
        for wrong in (-1, -2, -999, -1000, 1000, 1001, 9999, 10 ** 29, GREATEST, -10 ** 29, LEAST):
            for length in range(1, 7):
                for place in range(length):
                    numbers = [5] * length
                    numbers[place] = wrong
                    self.refused("NoNote", shown, numbers)


class OwnershipTest(Checks):
    def test_what_is_handed_in_stays_as_it_was(self):
        for numbers in some_lists() + [[], [1000], [5, -1], list(range(7))]:
            handed = list(numbers)
            try:
                shown(handed)
            except ValueError:
                pass
            self.assertEqual(handed, numbers)

    def test_what_is_handed_in_may_be_changed_later(self):
        numbers = [1, 2]
        text = shown(numbers)
        numbers.append(3)
        self.assertEqual(text, "1 2")
        self.assertEqual(shown(numbers), "1 2 3")

    def test_a_read_list_is_the_askers_own(self):
        first = read("3 1 2")
        second = read("3 1 2")
        self.assertIsNot(first, second)
        first.append(5)
        first[0] = "changed"
        self.assertEqual(second, [3, 1, 2])
        self.assertEqual(read("3 1 2"), [3, 1, 2])


if __name__ == "__main__":
    unittest.main()
