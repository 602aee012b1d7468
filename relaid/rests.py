"""Rests: what is left of a line when it was shortened from its end."""

from relaid.errors import Outside
from relaid.going import moved
from relaid.lines import first_places


class Rest:
    def __init__(self, top, bottom, lengths, turned):
        self.top = tuple(top)
        self.bottom = tuple(bottom)
        self.lengths = tuple(lengths)
        self.turned = tuple(turned)
        self.size = length_of(self, self.top)


def length_of(rest, letters):
    return sum([rest.lengths[letter] for letter in letters])


def rest_of(line):
    return Rest(list(range(len(line.lengths))), line.order, line.lengths, line.turned)


def letter_at(rest, y):
    if y < 0:
        raise Outside("no place of the rest lies below 0")
    end = 0
    for letter in rest.top:
        end = end + rest.lengths[letter]
        if y < end:
            return letter
    raise Outside("the place lies behind the rest")


def rest_goes(rest, y):
    letter = letter_at(rest, y)
    offset = y - first_places(rest.lengths, rest.top)[letter]
    return moved(rest, letter, offset, first_places(rest.lengths, rest.bottom))
