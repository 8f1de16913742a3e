"""Packs of cards: how great they may be, how many hands and rows they have, and what a hand or row is."""

from fourtell.errors import NoHand, NoPack, NoRow
from fourtell.orders import order_count

LEAST_SIZE = 2
GREATEST_SIZE = 5
MOST_COUNTED = 500


def most(size):
    check_size(size, GREATEST_SIZE)
    return order_count(size) + size - 1


def counts(size, cards):
    check_size(size, GREATEST_SIZE)
    check_cards(size, cards, MOST_COUNTED)
    return (hand_count(size, cards), row_count(size, cards))


def check_pack(size, cards):
    check_cards(size, cards, most(size))


# The greatest size and number of cards are handed in, since dealing, counting
# and planning go differently far.
def check_size(size, greatest):
    if size < LEAST_SIZE or size > greatest:
        raise NoPack(f"a pack has a size from {LEAST_SIZE} to {greatest} here, not {size}")


def check_cards(size, cards, greatest):
    if cards < size or cards > greatest:
        raise NoPack(f"a pack of size {size} has from {size} to {greatest} cards here, not {cards}")


def check_hand(size, cards, hand):
    if hand != sorted(hand) or not are_unlike_cards(size, cards, hand):
        raise NoHand(f"a hand is {size} unlike cards, rising, of a pack of {cards}, not {hand}")


def check_row(size, cards, row):
    laid_out = size - 1
    if not are_unlike_cards(laid_out, cards, row):
        raise NoRow(f"a row is {laid_out} unlike cards of a pack of {cards}, not {row}")


def are_unlike_cards(count, cards, numbers):
    in_pack = [number for number in numbers if number >= 0 and number < cards]
    return len(numbers) == count and len(set(in_pack)) == count


def hand_count(size, cards):
    # Each hand would be met once for every order of its cards.
    return choices_in_turn(size, cards) // order_count(size)


def row_count(size, cards):
    return choices_in_turn(size - 1, cards)


def choices_in_turn(picks, cards):
    count = 1
    for gone in range(picks):
        count = count * (cards - gone)
    return count
