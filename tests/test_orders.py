import itertools
import math
import unittest

from fourtell.orders import order_at, order_number
from tests.checks import GREATEST, LEAST, Checks, put_in_a_row

# Six unlike numbers each, none of them rising; the first 1 to 6 of each are used.
SIXES = (
    [2, 0, 1, 5, 3, 4],
    [40, 7, 123, 0, 26, 9],
    [-3, -1, -2, -60, -5, -4],
    [0, -1, 1, -2, 2, -100],
    [GREATEST, LEAST, 0, GREATEST - 1, LEAST + 1, 10 ** 29],
    [-10 ** 29, 10 ** 29 + 1, 10 ** 29, -10 ** 29 - 1, 7, -7],
)

FAR = (10 ** 6, 10 ** 29, GREATEST)


def all_orders(numbers):
    return [list(order) for order in itertools.permutations(numbers)]


def some_orders(numbers):
    """Ways to hand the numbers in: all for a few of them, else some."""
    if len(numbers) < 5:
        return all_orders(numbers)
    turned = [numbers[k:] + numbers[:k] for k in range(len(numbers))]
    return turned + [sorted(numbers), sorted(numbers, reverse=True)]


class OrdersTest(Checks):
    def test_against_all_orders_put_in_a_row(self):
        for six in SIXES:
            for length in range(1, 7):
                row = put_in_a_row(all_orders(six[:length]))
                self.assertEqual(len(row), math.factorial(length))
                for number, order in enumerate(row):
                    self.assertEqual(order_number(order), number, order)
                    self.assertEqual(order_at(six[:length], number), order, (order, number))

    def test_handed_in_in_any_order(self):
        for six in SIXES:
            for length in range(1, 7):
                row = sorted(all_orders(six[:length]))
                for handed in some_orders(six[:length]):
                    for number, order in enumerate(row):
                        self.assertEqual(order_at(handed, number), order, (handed, number))

    def test_there_and_back(self):
        for six in SIXES:
            for length in range(1, 7):
                for order in all_orders(six[:length]):
                    self.assertEqual(order_at(six[:length], order_number(order)), order)
                for number in range(math.factorial(length)):
                    self.assertEqual(order_number(order_at(six[:length], number)), number)

    def test_written_orders(self):
        self.assertEqual(order_at([9], 0), [9])
        self.assertEqual(order_at([9, 4], 0), [4, 9])
        self.assertEqual(order_at([4, 9], 1), [9, 4])
        self.assertEqual(order_at([3, 1, 2], 3), [2, 3, 1])
        self.assertEqual(order_at([0, 1, 2, 3, 4, 5], 719), [5, 4, 3, 2, 1, 0])
        self.assertEqual(order_number([-5]), 0)
        self.assertEqual(order_number([2, 3, 1]), 3)
        self.assertEqual(order_number([-1, -2]), 1)
        self.assertEqual(order_number([5, 4, 3, 2, 1, 0]), 719)

    def test_somewhat_beyond_the_lengths_nothing_is_refused(self):
        self.assertEqual(order_number([]), 0)
        self.assertEqual(order_at([], 0), [])
        seven = [6, 5, 4, 3, 2, 1, 0]
        self.assertEqual(order_number(seven), 5039)
        self.assertEqual(order_at(seven, 5039), seven)
        self.assertEqual(order_at(seven, 0), sorted(seven))

    def test_numbers_of_no_order_are_refused(self):
        for six in SIXES:
            for length in range(1, 7):
                orders = math.factorial(length)
                wrong = [-1, -2, -orders, -orders - 1, orders, orders + 1, 2 * orders]
                for far in FAR:
                    wrong.extend([far, -far])
                for number in wrong:
                    self.refused("NoNumber", order_at, six[:length], number)

    def test_the_kinds(self):
        for length in range(1, 7):
            order = order_at(SIXES[0][:length], 0)
            self.assertIs(type(order), list)
            for number in order:
                self.whole(number)
            self.whole(order_number(order))


class OwnershipTest(Checks):
    def test_what_is_handed_in_stays_as_it_was(self):
        for six in SIXES:
            for length in range(1, 7):
                handed = six[:length]
                for number in range(math.factorial(length)):
                    order_at(handed, number)
                    self.assertEqual(handed, six[:length])
                order_number(handed)
                self.assertEqual(handed, six[:length])
                self.refused("NoNumber", order_at, handed, math.factorial(length))
                self.refused("NoNumber", order_at, handed, -1)
                self.assertEqual(handed, six[:length])

    def test_what_is_handed_in_may_be_changed_later(self):
        handed = [3, 1, 2]
        order = order_at(handed, 4)
        self.assertEqual(order_number(handed), 4)
        handed[0] = 0
        self.assertEqual(order, [3, 1, 2])
        self.assertEqual(order_at(handed, 4), [2, 0, 1])
        self.assertEqual(order_number(handed), 0)
        handed.append(-7)
        self.assertEqual(order_at(handed, 0), [-7, 0, 1, 2])
        self.assertEqual(order_number(handed), 9)

    def test_a_told_list_is_the_askers_own(self):
        for six in SIXES:
            for length in range(1, 7):
                handed = sorted(six[:length])
                for number in range(math.factorial(length)):
                    first = order_at(handed, number)
                    second = order_at(handed, number)
                    self.assertIsNot(first, handed)
                    self.assertIsNot(first, second)
                    awaited = list(first)
                    first.append(5)
                    first[0] = "changed"
                    self.assertEqual(second, awaited)
                    self.assertEqual(order_at(handed, number), awaited)
                    self.assertEqual(handed, sorted(six[:length]))


if __name__ == "__main__":
    unittest.main()
