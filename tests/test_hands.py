import math
import unittest

from fourtell.hands import hand_at, hand_number
from tests.checks import GREATEST, LEAST, MOST, SMALL, Checks, Picks
from tests.checks import all_hands, goes_ahead, no_hands, no_packs, put_in_a_row

GREAT = [(4, 20), (4, 27), (5, 6), (5, 50), (5, 123), (5, 124)]


def some_hands(size, cards, count):
    picks = Picks(cards)
    return [sorted(picks.some(range(cards), size)) for number in range(count)]


class HandsTest(Checks):
    def test_against_all_hands_put_in_order(self):
        for size, cards in SMALL:
            for number, hand in enumerate(put_in_a_row(all_hands(size, cards))):
                self.assertEqual(hand_at(size, cards, number), hand, (size, cards, number))
                self.assertEqual(hand_number(size, cards, hand), number, (size, cards, hand))

    def test_a_great_pack_walked_through(self):
        for number, hand in enumerate(all_hands(4, 27)):
            self.assertEqual(hand_at(4, 27, number), hand)
            self.assertEqual(hand_number(4, 27, hand), number)

    def test_the_first_and_the_last(self):
        for size, greatest in MOST.items():
            for cards in range(size, greatest + 1):
                last = math.comb(cards, size) - 1
                self.assertEqual(hand_at(size, cards, 0), list(range(size)))
                self.assertEqual(hand_at(size, cards, last), list(range(cards - size, cards)))
                self.assertEqual(hand_number(size, cards, list(range(size))), 0)
                self.assertEqual(hand_number(size, cards, list(range(cards - size, cards))), last)

    def test_there_and_back_in_the_great_packs(self):
        for size, cards in GREAT:
            hands = math.comb(cards, size)
            picks = Picks(size)
            numbers = [0, 1, hands // 2, hands - 2, hands - 1]
            for number in numbers + [picks.below(hands) for turn in range(300)]:
                self.assertEqual(hand_number(size, cards, hand_at(size, cards, number)), number)
            for hand in some_hands(size, cards, 300):
                self.assertEqual(hand_at(size, cards, hand_number(size, cards, hand)), hand)

    def test_of_two_hands_of_a_great_pack_the_one_goes_ahead(self):
        for size, cards in GREAT:
            hands = some_hands(size, cards, 200)
            for one, other in zip(hands, hands[1:]):
                ahead = hand_number(size, cards, one) < hand_number(size, cards, other)
                self.assertEqual(ahead, goes_ahead(one, other), (one, other))

    def test_neighbours_in_a_great_pack(self):
        picks = Picks(7)
        for turn in range(200):
            number = picks.below(math.comb(124, 5) - 1)
            one = hand_at(5, 124, number)
            following = hand_at(5, 124, number + 1)
            place = max(place for place in range(5) if one[place] < 119 + place)
            risen = one[place] + 1
            self.assertEqual(following, one[:place] + list(range(risen, risen + 5 - place)))

    def test_written_hands(self):
        self.assertEqual(hand_at(2, 3, 1), [0, 2])
        self.assertEqual(hand_at(3, 8, 21), [1, 2, 3])
        self.assertEqual(hand_number(3, 8, [1, 2, 3]), 21)
        self.assertEqual(hand_at(5, 124, 225150023), [119, 120, 121, 122, 123])
        self.assertEqual(hand_number(5, 124, [0, 1, 2, 4, 5]), 120)

    def test_the_kinds(self):
        for size, cards in SMALL + GREAT:
            hand = hand_at(size, cards, math.comb(cards, size) // 2)
            self.whole_list(hand)
            self.whole(hand_number(size, cards, hand))


class RefusalsTest(Checks):
    def test_other_numbers_are_refused(self):
        for size, greatest in MOST.items():
            for cards in {size, size + 1, greatest - 1, greatest}:
                hands = math.comb(cards, size)
                for number in (-1, -2, -hands, -hands - 1, hands, hands + 1, 2 * hands, 10 ** 12, -10 ** 12):
                    self.refused("NoNumber", hand_at, size, cards, number)
                for number in (10 ** 29, -10 ** 29, GREATEST, LEAST):
                    self.refused("NoNumber", hand_at, size, cards, number)

    def test_what_is_no_pack_is_refused_ahead_of_all_else(self):
        for size, cards in no_packs():
            for number in (0, 1, -1, 10 ** 12, GREATEST, LEAST):
                self.refused("NoPack", hand_at, size, cards, number)
            for hand in ([0, 1], [0, 1, 2], [0, 1, 2, 3, 4], [], [1, 0], [1, 1], [-1, 0], [GREATEST], [LEAST] * 100):
                self.refused("NoPack", hand_number, size, cards, hand)

    def test_what_is_no_hand_is_refused(self):
        for size, cards in SMALL + GREAT:
            for hand in some_hands(size, cards, 5):
                for wrong in no_hands(hand, cards):
                    self.refused("NoHand", hand_number, size, cards, wrong)


class OwnershipTest(Checks):
    def test_what_is_handed_in_stays_as_it_was(self):
        for size, cards in SMALL + GREAT:
            for hand in some_hands(size, cards, 20):
                handed = list(hand)
                hand_number(size, cards, handed)
                self.assertEqual(handed, hand)
        for wrong in no_hands([1, 4, 6], 8):
            handed = list(wrong)
            self.refused("NoHand", hand_number, 3, 8, handed)
            self.assertEqual(handed, wrong)

    def test_what_is_handed_in_may_be_changed_later(self):
        hand = [0, 1, 2]
        self.assertEqual(hand_number(3, 8, hand), 0)
        hand[2] = 4
        self.assertEqual(hand_number(3, 8, hand), 2)

    def test_a_told_hand_is_the_askers_own(self):
        for size, cards in SMALL + GREAT:
            first = hand_at(size, cards, 0)
            second = hand_at(size, cards, 0)
            self.assertIsNot(first, second)
            first.append(5)
            first[0] = "changed"
            self.assertEqual(second, list(range(size)))
            self.assertEqual(hand_at(size, cards, 0), second)


if __name__ == "__main__":
    unittest.main()
