"""The orders of some unlike whole numbers, numbered from nought."""

from fourtell.errors import NoNumber


def order_count(things):
    count = 1
    for factor in range(2, things + 1):
        count = count * factor
    return count


def order_number(row):
    number = 0
    for place, here in enumerate(row):
        # The orders that part from this one here, to go ahead of it, have one
        # of the lesser numbers that are still to come at this place.
        behind = row[place:]
        lesser = len([other for other in behind if other < here])
        number = number * len(behind) + lesser
    return number


def order_at(numbers, number):
    last = order_count(len(numbers)) - 1
    if number < 0 or number > last:
        raise NoNumber(f"the orders are numbered from 0 to {last}, there is no {number}")
    left = sorted(numbers)
    order = []
    rest = number
    for behind in range(len(numbers) - 1, -1, -1):
        # Each choice for this place stands ahead of as many orders as the
        # numbers behind it have.
        block = order_count(behind)
        order.append(left.pop(rest // block))
        rest = rest % block
    return order
