"""Plans that lay out each hand of a small pack as a row of its own, or papers that there is none."""

from fourtell.errors import NoPlan
from fourtell.orders import order_at, order_count
from fourtell.packs import check_cards, check_hand, check_row, check_size

GREATEST_PLANNED_SIZE = 3
MOST_PLANNED = 9
MOST_BEGUN = 12


def plan(size, cards, begun):
    check_size(size, GREATEST_PLANNED_SIZE)
    check_cards(size, cards, MOST_PLANNED)
    check_begun(size, cards, begun)
    hands = all_hands(size, cards)
    row_by_hand = dict([(tuple(hand), tuple(row)) for hand, row in begun])
    open_rows = rows_left(hands, row_by_hand)
    hand_by_row = {}
    for start in open_rows:
        came_from = rows_met(start, open_rows, hand_by_row)
        unused = [row for row in came_from if row not in hand_by_row]
        if len(unused) == 0:
            # All rows of these hands are met, and each is had by another one
            # of them than the first, which has none.
            met = [start] + [hand_by_row[row] for row in came_from]
            return ("paper", [list(hand) for hand in sorted(met)])
        hand_on(unused[0], came_from, row_by_hand, hand_by_row)
    return ("plan", [list(row_by_hand[hand]) for hand in hands])


def check_begun(size, cards, begun):
    for hand, row in begun:
        check_hand(size, cards, hand)
        check_row(size, cards, row)
    if len(begun) > MOST_BEGUN:
        raise NoPlan(f"a beginning has at most {MOST_BEGUN} tuples")
    if any_twice([hand for hand, row in begun]):
        raise NoPlan("a beginning has no hand twice")
    if any_twice([row for hand, row in begun]):
        raise NoPlan("a beginning has no row twice")
    for hand, row in begun:
        if tuple(row) not in rows_of(hand):
            raise NoPlan(f"the row {row} is not of the cards of the hand {hand}")


def any_twice(lists):
    return len(set([tuple(one) for one in lists])) < len(lists)


# Tuples, since the hands and rows are keys of dicts.
def all_hands(size, cards):
    hands = [()]
    for place in range(size):
        longer = []
        for hand in hands:
            least = max(hand, default=-1) + 1
            longer.extend([hand + (card,) for card in range(least, cards)])
        hands = longer
    return hands


def rows_of(hand):
    rows = []
    for held in hand:
        others = [card for card in hand if card != held]
        for number in range(order_count(len(others))):
            rows.append(tuple(order_at(others, number)))
    return rows


def rows_left(hands, row_by_hand):
    taken = list(row_by_hand.values())
    left = {}
    for hand in hands:
        if hand not in row_by_hand:
            left[hand] = [row for row in rows_of(hand) if row not in taken]
    return left


# The rows that the first hand could have, those that the hands which have them
# could have in their place, and so on; each with the hand from which it was met.
def rows_met(start, open_rows, hand_by_row):
    came_from = {}
    waiting = [start]
    while len(waiting) > 0:
        hand = waiting.pop()
        for row in open_rows[hand]:
            if row not in came_from:
                came_from[row] = hand
                if row in hand_by_row:
                    waiting.append(hand_by_row[row])
    return came_from


# Back along the way each hand takes the row that was met from it and gives up
# its own to the hand ahead of it; the first one has none to give up.
def hand_on(row, came_from, row_by_hand, hand_by_row):
    given = row
    while given is not None:
        taker = came_from[given]
        freed = row_by_hand.get(taker)
        row_by_hand[taker] = given
        hand_by_row[given] = taker
        given = freed
