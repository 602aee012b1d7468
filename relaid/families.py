"""Families of orders: all that an order leads to where its last pieces are taken off one another."""

from relaid.errors import Loose
from relaid.lines import refuse_order_of

FEWEST = 2
MOST = 7


def falls_apart(order):
    return any([max(order[:first]) < first for first in range(1, len(order))])


def order_told(order):
    refuse_order_of(order, FEWEST, MOST)
    if falls_apart(order):
        raise Loose("the order falls apart")
    return tuple(order)


def led_over(order):
    last = order[-1]
    behind = order.index(len(order) - 1) + 1
    return order[:behind] + (last,) + order[behind:-1]


def number_under(order, piece):
    last = order[-1]
    if piece <= last:
        return piece
    return last + 1 if piece == len(order) - 1 else piece + 1


def led_under(order):
    return tuple([number_under(order, piece) for piece in order])


def over(order):
    return led_over(order_told(order))


def under(order):
    return led_under(order_told(order))


def words_from(order):
    # By order that is led to: the word that leads there last and the order ahead of it, none for the first one.
    # Orders come by the number of words that they need, so each is found by as few as can be.
    found = {order: None}
    fresh = [order]
    while fresh:
        coming = []
        for one in fresh:
            for word, reached in (("over", led_over(one)), ("under", led_under(one))):
                if reached not in found:
                    found[reached] = (word, one)
                    coming.append(reached)
        fresh = coming
    return found


def family(order):
    return sorted(words_from(order_told(order)))


def led(one, two):
    start = order_told(one)
    reached = order_told(two)
    found = words_from(start)
    if reached not in found:
        return None
    words = []
    while reached != start:
        words.append(found[reached][0])
        reached = found[reached][1]
    return words[::-1]
