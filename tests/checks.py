"""What several test files ask for."""

import itertools
import unittest

from fourtell import errors

SEVEN = ("NoPack", "NoHand", "NoRow", "NoCard", "NoNumber", "NoPlan", "NoNote")

# The greatest and the least whole number of thirty figures.
GREATEST = 10 ** 30 - 1
LEAST = -GREATEST

MOST = {2: 3, 3: 8, 4: 27, 5: 124}
NO_SIZES = (1, 0, -1, -2, -3, -4, -5, 6, 7, 27, 124, 500, 10 ** 29, GREATEST, -10 ** 29, LEAST)

# Packs of point 2 all of whose hands and rows are looked at.
SMALL = [(2, 2), (2, 3)] + [(3, cards) for cards in range(3, 9)]
SMALL += [(4, cards) for cards in range(4, 10)] + [(5, cards) for cards in range(5, 10)]


def goes_ahead(one, other):
    for here, there in zip(one, other):
        if here != there:
            return here < there
    return False


def put_in_a_row(lists):
    """Each is put behind just those that go ahead of it."""
    row = [None] * len(lists)
    for one in lists:
        row[sum(1 for other in lists if goes_ahead(other, one))] = one
    return row


def all_hands(size, cards):
    return [list(hand) for hand in itertools.combinations(range(cards), size)]


def all_rows(size, cards):
    return [list(row) for row in itertools.permutations(range(cards), size - 1)]


def no_packs():
    """Tuples of a size and cards that are no pack of point 2."""
    packs = []
    for size in NO_SIZES:
        packs.extend((size, cards) for cards in (size, 2, 3, 5, 8, 124, 125, 0, -1, GREATEST, LEAST))
    for size, cards in MOST.items():
        beyond = (cards + 1, cards + 2, 125, 500, 10 ** 29, GREATEST)
        below = (size - 1, size - 2, 1, 0, -1, -size, -cards, -10 ** 29, LEAST)
        packs.extend((size, other) for other in beyond + below)
    return packs


def spoiled(numbers, cards):
    """Lists that are no row (and no hand) though the handed one is: wrong cards, wrong lengths."""
    wrong = [[], numbers[:-1], numbers[1:], numbers * 2, numbers * 25]
    wrong.append(numbers + numbers[-1:])
    wrong.append(numbers[:1] + numbers)
    wrong.append(numbers + [cards])
    wrong.append([-1] + numbers)
    unused = [card for card in range(cards) if card not in numbers]
    if unused:
        wrong.append(numbers + unused[:1])
        wrong.append(sorted(numbers + unused[-1:]))
    for place in range(len(numbers)):
        for other in (-1, -2, -cards, cards, cards + 1, 10 ** 29, GREATEST, -10 ** 29, LEAST):
            wrong.append(numbers[:place] + [other] + numbers[place + 1:])
            wrong.append(sorted(wrong[-1]))
        if len(numbers) > 1:
            wrong.append(numbers[:place] + [numbers[place - 1]] + numbers[place + 1:])
            wrong.append(sorted(wrong[-1]))
    return wrong


def no_hands(hand, cards):
    """Lists that are no hand though the handed one is: also with two cards changed about."""
    wrong = spoiled(hand, cards)
    for one in range(len(hand)):
        for other in range(one):
            turned = list(hand)
            turned[one], turned[other] = turned[other], turned[one]
            wrong.append(turned)
    return wrong


class Picks:
    """Numbers that jump about, the same ones in each run."""

    def __init__(self, seed):
        self.state = seed

    def below(self, bound):
        self.state = (self.state * 6364136223846793005 + 1442695040888963407) % 2 ** 64
        return (self.state >> 24) % bound

    def some(self, things, count):
        """So many unlike ones, in any order."""
        left = list(things)
        return [left.pop(self.below(len(left))) for number in range(count)]


class Checks(unittest.TestCase):
    def refused(self, name, function, *handed):
        """The call is refused with the class of this name and with no other of the seven."""
        with self.assertRaises(ValueError, msg=(function.__name__, handed)) as caught:
            function(*handed)
        error = caught.exception
        self.assertIs(type(error), getattr(errors, name), (function.__name__, handed))
        self.assertIsInstance(error, errors.TellError)
        for other in SEVEN:
            self.assertEqual(isinstance(error, getattr(errors, other)), other == name)

    def whole(self, value):
        self.assertIs(type(value), int)

    def whole_list(self, value):
        self.assertIs(type(value), list)
        for number in value:
            self.whole(number)
