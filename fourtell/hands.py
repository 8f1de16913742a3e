"""The hands of a pack, numbered from nought."""

from fourtell.errors import NoNumber
from fourtell.packs import check_hand, check_pack, hand_count


def hand_at(size, cards, number):
    check_pack(size, cards)
    last = hand_count(size, cards) - 1
    if number < 0 or number > last:
        raise NoNumber(f"the hands are numbered from 0 to {last}, there is no {number}")
    hand = []
    rest = number
    card = 0
    while len(hand) < size:
        block = hands_going_on(size, cards, len(hand), card)
        if rest < block:
            hand.append(card)
        else:
            rest = rest - block
        card = card + 1
    return hand


def hand_number(size, cards, hand):
    check_pack(size, cards)
    check_hand(size, cards, hand)
    number = 0
    least = 0
    for place, held in enumerate(hand):
        for card in range(least, held):
            number = number + hands_going_on(size, cards, place, card)
        least = held + 1
    return number


# Behind a card at a place only greater cards come.
def hands_going_on(size, cards, place, card):
    return hand_count(size - place - 1, cards - card - 1)
