"""Rests: what is left of a line when it was shortened from its end."""

from relaid.errors import Outside
from relaid.going import moved
from relaid.lines import first_places


class Rest:
    def __init__(self, top, bottom, lengths, turned):
        self.top = tuple(top)
        self.bottom = tuple(bottom)
        self.lengths = tuple(lengths)
        self.turned = tuple(turned)
        self.size = length_of(self, self.top)


def length_of(rest, letters):
    return sum([rest.lengths[letter] for letter in letters])


def rest_of(line):
    return Rest(list(range(len(line.lengths))), line.order, line.lengths, line.turned)


def letter_in(rest, row, y):
    if y < 0:
        raise Outside("no place of the rest lies below 0")
    end = 0
    for letter in row:
        end = end + rest.lengths[letter]
        if y < end:
            return letter
    raise Outside("the place lies behind the rest")


def gone_between(rest, y, from_row, to_row):
    letter = letter_in(rest, from_row, y)
    offset = y - first_places(rest.lengths, from_row)[letter]
    return moved(rest, letter, offset, first_places(rest.lengths, to_row))


def letter_at(rest, y):
    return letter_in(rest, rest.top, y)


def rest_goes(rest, y):
    return gone_between(rest, y, rest.top, rest.bottom)


def rest_comes(rest, y):
    return gone_between(rest, y, rest.bottom, rest.top)
