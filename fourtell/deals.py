"""Laying out a hand with one card held back, and telling that card by the row."""

from fourtell.errors import NoCard
from fourtell.orders import order_at, order_number
from fourtell.packs import check_hand, check_pack, check_row


def laid(size, cards, hand):
    check_pack(size, cards)
    check_hand(size, cards, hand)
    place = sum(hand) % size
    held = hand[place]
    others = hand[:place] + hand[place + 1:]
    return (held, order_at(others, (held - place) // size))


def told(size, cards, row):
    check_pack(size, cards)
    check_row(size, cards, row)
    # The held card less its place is its number among the cards that are not
    # in the row. Divided by the size that is the number of the row's order;
    # and what is left makes the row's sum up to a multiple of the size, since
    # the hand's sum and the held card's place leave the same.
    number = order_number(row) * size + (-sum(row)) % size
    others = [card for card in range(cards) if card not in row]
    if number >= len(others):
        raise NoCard(f"in a pack of {cards} cards no card is told by {row}")
    return others[number]
