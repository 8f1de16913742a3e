import itertools
import unittest

from fourtell.deals import laid, told
from tests.checks import GREATEST, LEAST, MOST, SMALL, Checks, Picks
from tests.checks import all_hands, all_rows, no_hands, no_packs, spoiled

# Packs of which some hands and rows are tried, chosen by jumps.
GREAT = [(4, 26), (4, 27), (5, 30), (5, 77), (5, 123), (5, 124)]


def step_by_step(size, hand):
    """Point 6, the orders put in a row by sorting."""
    place = sum(hand) % size
    held = hand[place]
    others = [card for card in hand if card != held]
    orders = sorted(list(order) for order in itertools.permutations(others))
    return (held, orders[(held - place) // size])


def card_by_card(size, cards, row):
    """Point 7: the cards that the row tells."""
    found = []
    for card in range(cards):
        if card not in row and step_by_step(size, sorted(row + [card])) == (card, row):
            found.append(card)
    return found


def some_hands(size, cards):
    picks = Picks(cards)
    hands = [list(range(size)), list(range(cards - size, cards)), [0] + list(range(cards - size + 1, cards))]
    return hands + [sorted(picks.some(range(cards), size)) for number in range(1000)]


def some_rows(size, cards):
    picks = Picks(cards + 1)
    first = list(range(size - 1))
    last = list(range(cards - size + 1, cards))
    rows = [first, first[::-1], last, last[::-1]]
    return rows + [picks.some(range(cards), size - 1) for number in range(1000)]


class LaidTest(Checks):
    def test_every_hand_of_the_small_packs(self):
        for size, cards in SMALL + [(4, 27)]:
            for hand in all_hands(size, cards):
                self.assertEqual(laid(size, cards, hand), step_by_step(size, hand), (size, cards, hand))

    def test_many_hands_of_the_great_packs(self):
        for size, cards in GREAT:
            for hand in some_hands(size, cards):
                self.assertEqual(laid(size, cards, hand), step_by_step(size, hand), (size, cards, hand))

    def test_written_hands(self):
        self.assertEqual(laid(2, 2, [0, 1]), (1, [0]))
        self.assertEqual(laid(2, 3, [0, 2]), (0, [2]))
        self.assertEqual(laid(3, 3, [0, 1, 2]), (0, [1, 2]))
        self.assertEqual(laid(3, 8, [5, 6, 7]), (5, [7, 6]))
        self.assertEqual(laid(3, 8, [0, 2, 6]), (6, [2, 0]))
        self.assertEqual(laid(4, 27, [23, 24, 25, 26]), (25, [26, 24, 23]))
        self.assertEqual(laid(5, 124, [119, 120, 121, 122, 123]), (119, [123, 122, 121, 120]))
        self.assertEqual(laid(5, 124, [0, 31, 50, 77, 123]), (31, [50, 0, 77, 123]))

    def test_the_same_in_each_pack_that_has_the_cards(self):
        for size, greatest in MOST.items():
            for hand in all_hands(size, size + 1):
                for cards in range(max(hand) + 1, greatest + 1):
                    self.assertEqual(laid(size, cards, hand), step_by_step(size, hand), (size, cards, hand))

    def test_the_kinds(self):
        for size, cards in SMALL:
            answer = laid(size, cards, list(range(size)))
            self.assertIs(type(answer), tuple)
            self.assertEqual(len(answer), 2)
            self.whole(answer[0])
            self.whole_list(answer[1])


class ToldTest(Checks):
    def tried(self, size, cards, row, found):
        if found:
            self.assertEqual(told(size, cards, row), found[0], (size, cards, row))
            self.whole(told(size, cards, row))
        else:
            self.refused("NoCard", told, size, cards, row)

    def test_every_row_of_the_small_packs_card_by_card(self):
        for size, cards in SMALL:
            for row in all_rows(size, cards):
                found = card_by_card(size, cards, row)
                self.assertLess(len(found), 2, (size, cards, row))
                self.tried(size, cards, row, found)

    def test_many_rows_of_the_great_packs_card_by_card(self):
        for size, cards in GREAT:
            for row in some_rows(size, cards)[:60]:
                found = card_by_card(size, cards, row)
                self.assertLess(len(found), 2, (size, cards, row))
                self.tried(size, cards, row, found)

    def test_in_a_pack_of_the_most_cards_each_row_tells_one(self):
        for size in (2, 3, 4):
            cards = MOST[size]
            hands = [tuple(sorted(row + [told(size, cards, row)])) for row in all_rows(size, cards)]
            self.assertEqual(sorted(hands), list(itertools.combinations(range(cards), size)))
        for row in some_rows(5, 124):
            self.assertNotIn(told(5, 124, row), row)

    def test_in_a_lesser_pack_just_the_rows_of_no_hand_tell_none(self):
        for size, cards in SMALL + [(4, 26)]:
            held = {}
            for hand in all_hands(size, cards):
                card, row = laid(size, cards, hand)
                self.assertNotIn(tuple(row), held)
                held[tuple(row)] = card
            for row in all_rows(size, cards):
                self.tried(size, cards, row, [held[tuple(row)]] if tuple(row) in held else [])

    def test_written_rows(self):
        self.assertEqual(told(2, 3, [0]), 1)
        self.assertEqual(told(2, 3, [1]), 2)
        self.assertEqual(told(2, 3, [2]), 0)
        self.refused("NoCard", told, 2, 2, [1])
        self.assertEqual(told(3, 8, [7, 6]), 5)
        self.assertEqual(told(3, 8, [2, 0]), 6)
        self.refused("NoCard", told, 3, 6, [2, 0])
        self.assertEqual(told(5, 124, [123, 122, 121, 120]), 119)
        self.assertEqual(told(5, 124, [50, 0, 77, 123]), 31)

    def test_there_and_back(self):
        for size, cards in SMALL + GREAT:
            hands = some_hands(size, cards) if (size, cards) in GREAT else all_hands(size, cards)
            for hand in hands:
                held, row = laid(size, cards, hand)
                self.assertEqual(told(size, cards, row), held)
                self.assertEqual(sorted(row + [held]), hand)
        for row in some_rows(5, 124):
            card = told(5, 124, row)
            self.assertEqual(laid(5, 124, sorted(row + [card])), (card, row))


class RefusalsTest(Checks):
    def test_what_is_no_pack_is_refused_ahead_of_all_else(self):
        lists = ([0, 1], [0, 1, 2], [0, 1, 2, 3, 4], [0], [], [1, 0], [1, 1], [-1, 0], [GREATEST], [LEAST] * 100)
        for size, cards in no_packs():
            for numbers in lists:
                self.refused("NoPack", laid, size, cards, numbers)
                self.refused("NoPack", told, size, cards, numbers)

    def test_what_is_no_hand_is_refused(self):
        for size, cards in SMALL + GREAT:
            for hand in some_hands(size, cards)[:10]:
                for wrong in no_hands(hand, cards):
                    self.refused("NoHand", laid, size, cards, wrong)

    def test_every_order_of_a_hand_but_the_rising_one_is_refused(self):
        for size, cards in ((2, 3), (3, 8), (4, 27), (5, 124)):
            for hand in some_hands(size, cards)[:5]:
                for order in itertools.permutations(hand):
                    if list(order) != hand:
                        self.refused("NoHand", laid, size, cards, list(order))

    def test_what_is_no_row_is_refused_also_where_a_row_tells_none(self):
        for size, cards in SMALL + GREAT:
            for row in some_rows(size, cards)[:20]:
                for wrong in spoiled(row, cards):
                    self.refused("NoRow", told, size, cards, wrong)

    def test_cards_one_beyond_a_lesser_pack(self):
        self.refused("NoHand", laid, 3, 6, [0, 2, 6])
        self.assertEqual(laid(3, 7, [0, 2, 6]), (6, [2, 0]))
        self.refused("NoRow", told, 3, 6, [6, 0])
        self.refused("NoHand", laid, 2, 2, [0, 2])
        self.refused("NoRow", told, 2, 2, [2])


class OwnershipTest(Checks):
    def test_what_is_handed_in_stays_as_it_was(self):
        for size, cards in SMALL:
            for hand in all_hands(size, cards)[:50]:
                handed = list(hand)
                held, row = laid(size, cards, handed)
                self.assertEqual(handed, hand)
                self.assertIsNot(row, handed)
                given = list(row)
                told(size, cards, given)
                self.assertEqual(given, row)

    def test_refused_lists_stay_as_they_were(self):
        for wrong in no_hands([1, 4, 6], 8):
            handed = list(wrong)
            self.refused("NoHand", laid, 3, 8, handed)
            self.assertEqual(handed, wrong)
        for wrong in spoiled([6, 1], 8):
            handed = list(wrong)
            self.refused("NoRow", told, 3, 8, handed)
            self.assertEqual(handed, wrong)
        handed = [2, 0]
        self.refused("NoCard", told, 3, 6, handed)
        self.assertEqual(handed, [2, 0])

    def test_what_is_handed_in_may_be_changed_later(self):
        hand = [0, 2, 6]
        answer = laid(3, 8, hand)
        hand[2] = 7
        self.assertEqual(answer, (6, [2, 0]))
        self.assertEqual(laid(3, 8, hand), step_by_step(3, [0, 2, 7]))
        row = [2, 0]
        self.assertEqual(told(3, 8, row), 6)
        row.reverse()
        self.assertEqual(told(3, 8, row), card_by_card(3, 8, [0, 2])[0])

    def test_a_told_row_is_the_askers_own(self):
        for size, cards in SMALL:
            for hand in all_hands(size, cards)[:50]:
                first = laid(size, cards, hand)
                second = laid(size, cards, hand)
                self.assertIsNot(first[1], second[1])
                first[1].append(5)
                first[1][0] = "changed"
                self.assertEqual(second, step_by_step(size, hand))
                self.assertEqual(laid(size, cards, hand), second)


if __name__ == "__main__":
    unittest.main()
