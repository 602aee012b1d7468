"""Orders that the tests share: all of few pieces, and some of many."""

from itertools import permutations
from random import Random

from samples import GREATEST


def orders_of(pieces):
    return list(permutations(range(pieces)))


def small_orders(fewest, most):
    return [order for pieces in range(fewest, most + 1) for order in orders_of(pieces)]


def drawn_orders(pieces, number):
    """Orders of so many pieces, the same ones each time."""
    draw = Random(100 * pieces + number)
    told = []
    for _ in range(number):
        order = list(range(pieces))
        draw.shuffle(order)
        told.append(tuple(order))
    return told


def falls_apart(order):
    return any(set(order[:first]) == set(range(first)) for first in range(1, len(order)))


def whole_orders(fewest, most):
    return [order for order in small_orders(fewest, most) if not falls_apart(order)]


def many_whole_orders():
    """All orders of 2 to 5 pieces that don't fall apart, and some of 6 and 7."""
    drawn = [order for order in drawn_orders(6, 60) + drawn_orders(7, 60) if not falls_apart(order)]
    return whole_orders(2, 5) + drawn + [(5, 4, 3, 2, 1, 0), (6, 5, 4, 3, 2, 1, 0), (6, 0, 1, 2, 3, 4, 5),
                                         (1, 2, 3, 4, 5, 6, 0), (3, 5, 1, 6, 4, 2, 0)]


def no_orders(fewest, most):
    """Lists of whole numbers that are no order of so many pieces."""
    told = [[], list(range(most + 1)), list(range(most, -1, -1)), [most] + list(range(most)), list(range(60)),
            [0, 0], [1, 1], [1, 2], [2, 1], [0, 2], [2, 0], [-1, 0], [0, -1], [1, -1], [-2, -1], [-1], [1], [7],
            [1, 0, 0], [1, 0, 1], [2, 1, 1], [2, 2, 0], [3, 1, 0], [3, 2, 1], [3, 1, 2], [2, 0, -1], [-1, -2, -3],
            [2, 4, 1, 0], [4, 3, 2, 1], [GREATEST, 0], [1, -GREATEST], [0, 10 ** 60, 1], [-10 ** 60], [10 ** 60]]
    told += [list(range(pieces)) for pieces in range(1, fewest)]
    for pieces in range(2, most + 1):
        order = list(range(pieces - 1, -1, -1))
        told += [order[:-1] + [order[0]], [order[0] + 1] + order[1:], order[:-1] + [-1], [order[1]] + order[1:],
                 order[:-1] + [pieces], order[:-1] + [GREATEST]]
    return told
