import itertools
import math
import unittest

from fourtell.packs import counts, most
from tests.checks import GREATEST, LEAST, MOST, NO_SIZES, Checks


def counted_one_by_one(size, cards):
    pack = range(cards)
    hands = sum(1 for hand in itertools.combinations(pack, size))
    rows = sum(1 for row in itertools.permutations(pack, size - 1))
    return (hands, rows)


class MostTest(Checks):
    def test_the_four_sizes(self):
        for size, cards in MOST.items():
            self.assertEqual(most(size), cards)
            self.whole(most(size))

    def test_other_sizes_are_refused(self):
        for size in NO_SIZES:
            self.refused("NoPack", most, size)


class CountsTest(Checks):
    def test_small_packs_counted_one_by_one(self):
        for size in MOST:
            for cards in range(size, 13):
                self.assertEqual(counts(size, cards), counted_one_by_one(size, cards), (size, cards))

    def test_greatest_packs_counted_one_by_one(self):
        for size in (2, 3, 4):
            for cards in (MOST[size] - 1, MOST[size], MOST[size] + 1):
                self.assertEqual(counts(size, cards), counted_one_by_one(size, cards), (size, cards))

    def test_written_numbers(self):
        self.assertEqual(counts(2, 2), (1, 2))
        self.assertEqual(counts(3, 3), (1, 6))
        self.assertEqual(counts(4, 4), (1, 24))
        self.assertEqual(counts(5, 5), (1, 120))
        self.assertEqual(counts(2, 3), (3, 3))
        self.assertEqual(counts(2, 4), (6, 4))
        self.assertEqual(counts(3, 8), (56, 56))
        self.assertEqual(counts(3, 9), (84, 72))
        self.assertEqual(counts(4, 27), (17550, 17550))
        self.assertEqual(counts(4, 28), (20475, 19656))
        self.assertEqual(counts(5, 124), (225150024, 225150024))
        self.assertEqual(counts(5, 125), (234531275, 232593000))
        self.assertEqual(counts(2, 500), (124750, 500))
        self.assertEqual(counts(5, 500), (255244687600, 61752747000))

    def test_all_packs_to_500_cards(self):
        for size in MOST:
            for cards in range(size, 501):
                awaited = (math.comb(cards, size), math.perm(cards, size - 1))
                self.assertEqual(counts(size, cards), awaited, (size, cards))

    def test_no_more_hands_than_rows_just_to_the_most_cards(self):
        for size in MOST:
            for cards in range(size, 501):
                hands, rows = counts(size, cards)
                self.assertEqual(hands <= rows, cards <= most(size), (size, cards))

    def test_a_tuple_of_two_whole_numbers_is_told(self):
        for size in MOST:
            for cards in (size, MOST[size], MOST[size] + 1, 500):
                told = counts(size, cards)
                self.assertIs(type(told), tuple)
                self.assertEqual(len(told), 2)
                self.whole(told[0])
                self.whole(told[1])

    def test_other_numbers_of_cards_are_refused(self):
        for size in MOST:
            beyond = (501, 502, 1000, 10 ** 29, GREATEST)
            below = (size - 1, size - 2, 1, 0, -1, -size, -500, -501, -10 ** 29, LEAST)
            for cards in beyond + below:
                self.refused("NoPack", counts, size, cards)

    def test_other_sizes_are_refused_with_any_cards(self):
        for size in NO_SIZES:
            for cards in (size, 2, 5, 8, 124, 500, 501, 0, -1, GREATEST, LEAST):
                self.refused("NoPack", counts, size, cards)


if __name__ == "__main__":
    unittest.main()
