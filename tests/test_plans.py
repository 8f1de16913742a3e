import copy
import itertools
import unittest

from fourtell.plans import plan
from tests.checks import GREATEST, LEAST, MOST, NO_SIZES, Checks, Picks
from tests.checks import all_hands, all_rows, no_hands, spoiled

PACKS = [(2, cards) for cards in range(2, 10)] + [(3, cards) for cards in range(3, 10)]

# Ten hands and ten rows, none of them twice, of a pack of 9 cards.
TEN = [
    ([0, 1, 2], [0, 1]),
    ([0, 1, 3], [1, 0]),
    ([0, 2, 3], [2, 0]),
    ([1, 2, 3], [3, 1]),
    ([4, 5, 6], [4, 6]),
    ([4, 5, 7], [7, 4]),
    ([4, 6, 8], [8, 6]),
    ([5, 6, 8], [8, 5]),
    ([0, 4, 8], [0, 8]),
    ([1, 5, 7], [5, 1]),
]
TWELVE = TEN + [([2, 6, 7], [6, 7]), ([3, 7, 8], [7, 8])]


def own_rows(hand):
    return [list(row) for row in itertools.permutations(hand, len(hand) - 1)]


def picked_beginning(size, cards, count, picks):
    """Up to so many hands, each with a row of its own that is still free."""
    hands = all_hands(size, cards)
    begun = []
    for hand in picks.some(hands, min(count, len(hands))):
        free = [row for row in own_rows(hand) if row not in [used for other, used in begun]]
        if free:
            begun.append((hand, picks.some(free, 1)[0]))
    return begun


def crowded_beginning(cards, count, picks):
    """Of size 3: the rows of four cards alone, laid out by hands that have two of these or more."""
    begun = []
    four = picks.some(range(cards), 4)
    for pair in picks.some(itertools.permutations(four, 2), count):
        hands = [sorted(pair + (card,)) for card in range(cards) if card not in pair]
        unused = [hand for hand in hands if hand not in [used for used, row in begun]]
        if unused:
            # Those with a card beyond the four leave the hands of the four without rows.
            begun.append((max(unused, key=lambda hand: len(set(hand) - set(four))), list(pair)))
    return begun


class PlanChecks(Checks):
    def looked_at(self, size, cards, begun):
        """The answer is a plan or a paper from this beginning; its text is given back."""
        kept = copy.deepcopy(begun)
        answer = plan(size, cards, begun)
        self.assertEqual(begun, kept)
        self.assertIs(type(answer), tuple)
        self.assertEqual(len(answer), 2)
        self.assertIs(type(answer[0]), str)
        self.assertIs(type(answer[1]), list)
        for one in answer[1]:
            self.whole_list(one)
        self.assertIn(answer[0], ("plan", "paper"))
        self.assertEqual(len(set(map(id, answer[1]))), len(answer[1]))
        if answer[0] == "plan":
            self.is_plan(size, cards, kept, answer[1])
        else:
            self.is_paper(size, cards, kept, answer[1])
        return answer[0]

    def is_plan(self, size, cards, begun, rows):
        hands = all_hands(size, cards)
        self.assertEqual(len(rows), len(hands))
        for hand, row in zip(hands, rows):
            self.assertIn(row, own_rows(hand))
        self.assertEqual(len(set(map(tuple, rows))), len(rows))
        for hand, row in begun:
            self.assertEqual(rows[hands.index(hand)], row)

    def is_paper(self, size, cards, begun, hands):
        self.assertEqual(hands, sorted(hands))
        self.assertEqual(len(set(map(tuple, hands))), len(hands))
        used = [tuple(row) for hand, row in begun]
        left = set()
        for hand in hands:
            self.assertIn(hand, all_hands(size, cards))
            self.assertNotIn(hand, [other for other, row in begun])
            left.update(tuple(row) for row in own_rows(hand) if tuple(row) not in used)
        self.assertLess(len(left), len(hands), (size, cards, begun))


class PlanTest(PlanChecks):
    def test_without_a_beginning_a_plan_is_told_just_where_no_more_hands_are_than_rows(self):
        for size, cards in PACKS:
            fitting = len(all_hands(size, cards)) <= len(all_rows(size, cards))
            awaited = "plan" if fitting else "paper"
            self.assertEqual(self.looked_at(size, cards, []), awaited, (size, cards))

    def test_written_answers(self):
        self.assertEqual(plan(2, 2, [([0, 1], [1])]), ("plan", [[1]]))
        self.assertEqual(plan(2, 3, [([0, 1], [0])]), ("plan", [[0], [2], [1]]))
        self.assertEqual(plan(2, 3, [([1, 2], [1])]), ("plan", [[0], [2], [1]]))
        self.assertEqual(plan(2, 3, [([0, 2], [0]), ([1, 2], [1])]), ("paper", [[0, 1]]))
        self.assertEqual(plan(3, 3, [([0, 1, 2], [2, 1])]), ("plan", [[2, 1]]))
        self.assertEqual(self.looked_at(3, 8, TWELVE[:6]), "plan")
        self.assertEqual(self.looked_at(3, 9, TWELVE), "paper")

    def test_every_beginning_of_a_small_pack(self):
        for size, cards in ((2, 2), (2, 3), (2, 4), (3, 3)):
            hands = all_hands(size, cards)
            for rows in itertools.product(*([None] + own_rows(hand) for hand in hands)):
                laid_out = [tuple(row) for row in rows if row is not None]
                if len(set(laid_out)) == len(laid_out):
                    begun = [(hand, row) for hand, row in zip(hands, rows) if row is not None]
                    self.looked_at(size, cards, begun)
                    self.looked_at(size, cards, begun[::-1])

    def test_every_beginning_of_one_tuple(self):
        for size, cards in PACKS:
            for hand in all_hands(size, cards):
                for row in own_rows(hand):
                    awaited = "plan" if cards <= MOST[size] else "paper"
                    self.assertEqual(self.looked_at(size, cards, [(hand, row)]), awaited)

    def test_many_beginnings(self):
        picks = Picks(11)
        for size, cards in PACKS:
            for count in range(1, 13):
                for turn in range(12):
                    self.looked_at(size, cards, picked_beginning(size, cards, count, picks))

    def test_beginnings_that_use_up_the_rows_of_few_hands(self):
        picks = Picks(12)
        texts = []
        for cards in range(4, 10):
            for count in range(1, 13):
                for turn in range(12):
                    begun = crowded_beginning(cards, count, picks)
                    texts.append(self.looked_at(3, cards, begun))
                    self.looked_at(3, cards, begun[::-1])
        self.assertIn("plan", texts)
        self.assertIn("paper", texts)

    def test_all_rows_of_one_hand_used_up(self):
        for cards in range(5, 9):
            # The two orders of two cards need two other hands.
            begun = [(sorted(row + [3 if row[0] < row[1] else 4]), row) for row in own_rows([0, 1, 2])]
            self.assertEqual(self.looked_at(3, cards, begun), "paper")
            # One tuple less, and this hand has the row that is left.
            for place in range(6):
                fewer = begun[:place] + begun[place + 1:]
                self.assertEqual(self.looked_at(3, cards, fewer), "plan")
                self.assertEqual(plan(3, cards, fewer)[1][0], begun[place][1])

    def test_two_hands_with_one_row_left(self):
        # [0, 1, 2] and [0, 1, 3] have ten rows together; nine are laid out by others.
        together = []
        for hand in ([0, 1, 2], [0, 1, 3]):
            together.extend(row for row in own_rows(hand) if row not in together)
        self.assertEqual(len(together), 10)
        for left in range(10):
            begun = []
            for row in together[:left] + together[left + 1:]:
                for card in range(4, 8):
                    hand = sorted(row + [card])
                    if hand not in [used for used, other in begun]:
                        begun.append((hand, row))
                        break
            self.assertEqual(len(begun), 9)
            self.assertEqual(self.looked_at(3, 8, begun), "paper")

    def test_twelve_tuples_are_a_beginning_in_any_order(self):
        picks = Picks(14)
        for turn in range(20):
            self.looked_at(3, 9, picks.some(TWELVE, 12))


class RefusalsTest(Checks):
    def test_what_is_no_pack_is_refused_ahead_of_all_else(self):
        packs = [(2, cards) for cards in (1, 0, -1, -2, -9, 10, 11, 124, 10 ** 29, GREATEST, -10 ** 29, LEAST)]
        packs += [(3, cards) for cards in (2, 1, 0, -1, -3, -9, 10, 11, 27, 10 ** 29, GREATEST, -10 ** 29, LEAST)]
        for size in NO_SIZES + (4, 5):
            packs += [(size, cards) for cards in (size, 2, 3, 4, 5, 8, 9, 10, 27, 0, -1, GREATEST, LEAST)]
        beginnings = [[], [([0, 1], [0])], [([0, 1, 2], [1, 0])], [([1, 0], [0])], [([0, 1], [])], [([], [])]]
        beginnings += [[([0, 1], [0])] * 2, [([0, 1, 2], [0, 1])] * 13, [([0, 1], [2])]]
        for size, cards in packs:
            for begun in beginnings:
                self.refused("NoPack", plan, size, cards, begun)

    def test_what_is_no_hand_or_no_row_is_refused(self):
        for size, cards in PACKS:
            for hand in (list(range(size)), list(range(cards - size, cards))):
                for wrong in no_hands(hand, cards):
                    self.refused("NoHand", plan, size, cards, [(wrong, hand[:-1])])
                for wrong in spoiled(hand[1:], cards):
                    self.refused("NoRow", plan, size, cards, [(hand, wrong)])
                    for other in no_hands(hand, cards):
                        self.refused("NoHand", plan, size, cards, [(other, wrong)])

    def test_tuple_by_tuple_in_their_order(self):
        no_hand = ([1, 0, 2], [0, 1])
        no_row = ([0, 3, 4], [0, 0])
        neither = ([0, 3], [0])
        for ahead in range(len(TEN) + 1):
            for behind in (TEN[ahead:], []):
                first = TEN[:ahead]
                self.refused("NoHand", plan, 3, 9, first + [no_hand] + behind)
                self.refused("NoRow", plan, 3, 9, first + [no_row] + behind)
                self.refused("NoHand", plan, 3, 9, first + [neither] + behind)
                self.refused("NoHand", plan, 3, 9, first + [no_hand, no_row] + behind)
                self.refused("NoRow", plan, 3, 9, first + [no_row, no_hand] + behind)
                self.refused("NoHand", plan, 3, 9, first + [neither, no_row] + behind)
                self.refused("NoRow", plan, 3, 9, first + [no_row, neither] + behind)
                self.refused("NoHand", plan, 3, 9, [no_hand] + first + [no_row] + behind)
                self.refused("NoRow", plan, 3, 9, [no_row] + first + [no_hand] + behind)

    def test_more_than_twelve_tuples_are_refused(self):
        more = TWELVE + [([0, 5, 6], [6, 0])]
        for place in range(13):
            self.assertIn(plan(3, 9, more[:place] + more[place + 1:])[0], ("plan", "paper"))
            self.refused("NoPlan", plan, 3, 9, more[place:] + more[:place])
        self.refused("NoPlan", plan, 3, 9, (more * 8)[:100])
        self.refused("NoPlan", plan, 2, 2, [([0, 1], [0])] * 13)
        for cards in range(6, 10):
            begun = picked_beginning(3, cards, 13, Picks(cards))
            self.assertEqual(len(begun), 13)
            self.refused("NoPlan", plan, 3, cards, begun)
            self.assertIn(plan(3, cards, begun[1:])[0], ("plan", "paper"))

    def test_a_hand_twice_is_refused(self):
        self.refused("NoPlan", plan, 2, 3, [([0, 1], [0]), ([0, 1], [1])])
        for place in range(len(TEN)):
            hand, row = TEN[place]
            for other in own_rows(hand):
                if other not in [used for some, used in TEN]:
                    for behind in range(len(TEN) + 1):
                        self.refused("NoPlan", plan, 3, 9, TEN[:behind] + [(list(hand), other)] + TEN[behind:])

    def test_a_row_twice_is_refused(self):
        self.refused("NoPlan", plan, 2, 3, [([0, 1], [0]), ([0, 2], [0])])
        for place in range(len(TEN)):
            for card in range(9):
                hand = sorted(set(TEN[place][1] + [card]))
                if len(hand) == 3 and hand not in [used for used, row in TEN]:
                    for behind in range(len(TEN) + 1):
                        twice = (hand, list(TEN[place][1]))
                        self.refused("NoPlan", plan, 3, 9, TEN[:behind] + [twice] + TEN[behind:])

    def test_a_tuple_twice_is_refused(self):
        for size, cards in PACKS:
            for hand in all_hands(size, cards)[:10]:
                for row in own_rows(hand):
                    self.refused("NoPlan", plan, size, cards, [(hand, row), (list(hand), list(row))])
                    self.refused("NoPlan", plan, size, cards, [(hand, row)] * 2)

    def test_a_row_of_other_cards_is_refused(self):
        for size, cards in PACKS:
            for hand in all_hands(size, cards)[:20]:
                for row in all_rows(size, cards):
                    if not set(row) <= set(hand):
                        self.refused("NoPlan", plan, size, cards, [(hand, row)])
        for place in range(len(TEN)):
            self.refused("NoPlan", plan, 3, 9, TEN[:place] + [([2, 3, 4], [3, 5])] + TEN[place:])

    def test_what_makes_no_beginning_goes_behind_no_hand_and_no_row(self):
        hand_twice = [([0, 1, 2], [0, 1]), ([0, 1, 2], [1, 0])]
        row_twice = [([0, 1, 2], [0, 1]), ([0, 1, 3], [0, 1])]
        other_cards = [([0, 1, 2], [0, 3])]
        for none in (hand_twice, row_twice, other_cards, hand_twice + other_cards, row_twice + other_cards):
            self.refused("NoPlan", plan, 3, 9, none)
            self.refused("NoHand", plan, 3, 9, none + [([2, 1, 0], [2, 1])])
            self.refused("NoHand", plan, 3, 9, none + [([0, 1, 9], [2, 2])])
            self.refused("NoRow", plan, 3, 9, none + [([0, 1, 4], [4])])
            self.refused("NoRow", plan, 3, 9, none + [([0, 1, 4], [9, 0]), ([0, 1], [0, 1])])
            self.refused("NoHand", plan, 3, 9, [([], [])] + none)
        self.refused("NoRow", plan, 3, 9, [([0, 1, 2], [0, GREATEST])])
        self.refused("NoHand", plan, 3, 9, [([0, 1, 2], [0, 4]), ([LEAST, 0, 1], [0, 1])])


class OwnershipTest(Checks):
    def test_what_is_handed_in_stays_as_it_was_deep_within(self):
        for begun in (TEN, TWELVE, TEN[:3] + [([0, 1], [0])], TEN + TEN[:1], TWELVE + TWELVE, [([0, 1, 2], [3, 4])]):
            handed = [(list(hand), list(row)) for hand, row in begun]
            kept = copy.deepcopy(handed)
            lists = [(hand, row) for hand, row in handed]
            try:
                plan(3, 9, handed)
            except ValueError:
                pass
            self.assertEqual(handed, kept)
            for (hand, row), one in zip(lists, handed):
                self.assertIs(one[0], hand)
                self.assertIs(one[1], row)

    def test_no_told_list_is_one_that_was_handed_in(self):
        for cards, begun in ((8, TWELVE[:6]), (9, TWELVE)):
            handed = [(list(hand), list(row)) for hand, row in begun]
            given = [id(one) for pair in handed for one in pair]
            text, lists = plan(3, cards, handed)
            self.assertEqual(text, "plan" if cards == 8 else "paper")
            self.assertIsNot(lists, handed)
            for one in lists:
                self.assertNotIn(id(one), given)

    def test_what_is_handed_in_may_be_changed_later(self):
        begun = [(list(hand), list(row)) for hand, row in TEN[:6]]
        text, rows = plan(3, 8, begun)
        kept = copy.deepcopy(rows)
        for hand, row in begun:
            hand.reverse()
            row.clear()
        begun.clear()
        self.assertEqual(rows, kept)
        self.assertEqual(plan(3, 8, TEN[:6]), ("plan", kept))
        self.assertEqual(plan(3, 8, begun)[0], "plan")

    def test_what_is_told_is_the_askers_own(self):
        for size, cards, begun in ((2, 3, []), (2, 9, []), (3, 8, []), (3, 9, []), (3, 8, TEN[:6]), (3, 9, TWELVE)):
            handed = copy.deepcopy(begun)
            first = plan(size, cards, handed)
            second = plan(size, cards, handed)
            kept = copy.deepcopy(first)
            for one in first[1]:
                one.append(7)
                one[0] = "changed"
            first[1].clear()
            self.assertEqual(second, kept)
            self.assertEqual(plan(size, cards, handed), kept)
            self.assertEqual(handed, begun)

    def test_no_two_told_lists_are_one(self):
        for size, cards in PACKS:
            text, lists = plan(size, cards, [])
            for place, one in enumerate(lists):
                kept = copy.deepcopy(lists)
                one.append("changed")
                kept[place].append("changed")
                self.assertEqual(lists, kept)


if __name__ == "__main__":
    unittest.main()
