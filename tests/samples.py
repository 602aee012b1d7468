"""Lines and rests that the tests share, and what the document asks of them, worked out place by place."""

import signal
import unittest
from itertools import permutations, product
from random import Random

from relaid.lines import Line
from relaid.rests import Rest

GREATEST = 10 ** 30
MOST_SECONDS = 30


class Timed(unittest.TestCase):
    """Tests of what must come to an end quickly: each fails where it goes on and on."""

    def setUp(self):
        signal.signal(signal.SIGALRM, self.too_long)
        signal.alarm(MOST_SECONDS)
        self.addCleanup(signal.alarm, 0)

    def too_long(self, number, frame):
        self.fail("not done within half a minute")


def told_lines():
    """A few lines as they are handed in: lengths, order, turns."""
    many = [3 * (p % 5) + 1 for p in range(24)]
    shuffled = [(7 * p + 5) % 24 for p in range(24)]
    great = [10 ** 28 + p for p in range(23)]
    great.append(GREATEST - sum(great))
    return [
        ([1], [0], [False]),
        ([1], [0], [True]),
        ([7], [0], [True]),
        ([2, 3], [1, 0], [False, True]),
        ([3, 1, 4], [2, 0, 1], [True, False, True]),
        ([1, 1, 1, 1], [3, 1, 0, 2], [True, True, False, True]),
        ([5, 2, 9, 1, 4], [3, 0, 4, 2, 1], [False, True, True, False, False]),
        ([1] * 24, list(range(23, -1, -1)), [True] * 24),
        (many, shuffled, [p % 3 == 1 for p in range(24)]),
        ([GREATEST], [0], [False]),
        ([GREATEST], [0], [True]),
        ([1, GREATEST - 2, 1], [1, 2, 0], [False, True, False]),
        (great, shuffled, [p % 2 == 0 for p in range(24)]),
    ]


def small_told_lines():
    """All lines of up to three pieces of 1 to 3 places, as they are handed in."""
    told = []
    for pieces in (1, 2, 3):
        for lengths in product((1, 2, 3), repeat=pieces):
            for order in permutations(range(pieces)):
                for turned in product((False, True), repeat=pieces):
                    told.append((lengths, order, turned))
    return told


def small_lines():
    """The small lines, and those of the told ones that can be gone through place by place."""
    small = [told for told in told_lines() if sum(told[0]) < 1000]
    return [Line(*told) for told in small_told_lines() + small]


def drawn_told_lines(pieces, greatest, number, turning=(0, 1, 2)):
    """Lines of up to so many pieces with lengths up to the greatest, the same ones each time.

    Of each two pieces none, one or both are turned, by the number drawn from `turning`.
    """
    draw = Random(10 * pieces + number)
    told = []
    for _ in range(number):
        many = draw.randint(2, pieces)
        turns = draw.choice(turning)
        order = list(range(many))
        draw.shuffle(order)
        lengths = [draw.randint(1, draw.choice((3, greatest))) for _ in range(many)]
        told.append((lengths, order, [draw.randrange(2) < turns for _ in range(many)]))
    return told


def laid_rows(top, bottom, lengths, turned):
    """By place, after the laying: the place that lies there now. The document's words done with real rows."""
    stretches = {}
    first = 0
    for letter in top:
        stretches[letter] = list(range(first, first + lengths[letter]))
        first += lengths[letter]
    row = []
    for letter in bottom:
        row.extend(stretches[letter][::-1] if turned[letter] else stretches[letter])
    return row


def laid_out(lengths, order, turned):
    return laid_rows(range(len(lengths)), order, lengths, turned)


def gone_rows(top, bottom, lengths, turned):
    """By place: the place that it goes to."""
    row = laid_rows(top, bottom, lengths, turned)
    gone = [0] * len(row)
    for y, x in enumerate(row):
        gone[x] = y
    return gone


def letters_of(top, lengths):
    """By place: the letter of the top row in whose stretch it lies."""
    return [letter for letter in top for _ in range(lengths[letter])]


def first_return(gone, x, size):
    """The places gone through from x till one below the size is come to again: x first, that one last."""
    way = [x, gone[x]]
    while way[-1] >= size:
        way.append(gone[way[-1]])
    return way


def rest_fields(rest):
    return (rest.top, rest.bottom, rest.lengths, rest.turned, rest.size)


def told_rest(rest):
    """What a rest is made of: the rows, the lengths and the turns."""
    return rest_fields(rest)[:4]


def small_told_rests():
    """Rests of up to three letters of 1, 2 or 5 places, as they are handed in, some with letters that are gone."""
    told = []
    for letters in ((0,), (1, 2), (0, 1, 2), (4, 0, 2)):
        for lengths in product((1, 2, 5), repeat=len(letters)):
            for turned in product((False, True), repeat=len(letters)):
                length_of = dict(zip(letters, lengths))
                turn_of = dict(zip(letters, turned))
                rows = ([length_of.get(letter, 0) for letter in range(6)],
                        [turn_of.get(letter, False) for letter in range(6)])
                for bottom in permutations(letters):
                    told.append((list(letters), list(bottom)) + rows)
                    told.append((list(letters)[::-1], list(bottom)) + rows)
    return told


def drawn_told_rests():
    """Rests of up to six letters, top rows in any order, the same ones each time."""
    draw = Random(77)
    told = []
    for lengths, order, turned in drawn_told_lines(6, 9, 300):
        top = list(range(len(lengths)))
        draw.shuffle(top)
        told.append((top, order, lengths, turned))
    return told


def small_rests():
    return [Rest(*told) for told in small_told_rests() + drawn_told_rests()]
