"""Packs of cards: how great they may be, and how many hands and rows they have."""

from fourtell.errors import NoPack
from fourtell.orders import order_count

LEAST_SIZE = 2
GREATEST_SIZE = 5
MOST_COUNTED = 500


def most(size):
    check_size(size)
    return order_count(size) + size - 1


def counts(size, cards):
    check_size(size)
    check_cards(size, cards, MOST_COUNTED)
    return (hand_count(size, cards), row_count(size, cards))


def check_size(size):
    if size < LEAST_SIZE or size > GREATEST_SIZE:
        raise NoPack(f"a pack has a size from {LEAST_SIZE} to {GREATEST_SIZE}, not {size}")


# The greatest number is handed in, since counting goes further than dealing.
def check_cards(size, cards, greatest):
    if cards < size or cards > greatest:
        raise NoPack(f"a pack of size {size} has from {size} to {greatest} cards here, not {cards}")


def hand_count(size, cards):
    # Each hand would be met once for every order of its cards.
    return choices_in_turn(size, cards) // order_count(size)


def row_count(size, cards):
    return choices_in_turn(size - 1, cards)


def choices_in_turn(picks, cards):
    count = 1
    for gone in range(picks):
        count = count * (cards - gone)
    return count
