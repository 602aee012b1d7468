"""Lines: places cut into pieces, and the order in which the pieces are laid again.

The words of a refusal tell no number: Python refuses to write very great ones, with an error of its own.
"""

from relaid.errors import BadLengths, BadOrder, BadTurned

MOST_PIECES = 24


def refuse_lengths(lengths):
    if len(lengths) == 0:
        raise BadLengths("a line has at least one piece")
    if len(lengths) > MOST_PIECES:
        raise BadLengths("a line has at most 24 pieces")
    if min(lengths) < 1:
        raise BadLengths("a piece is at least 1 long")
    if sum(lengths) > 10 ** 30:
        raise BadLengths("a line has at most 10 ** 30 places")


def refuse_order(order, pieces):
    if sorted(order) != list(range(pieces)):
        raise BadOrder("an order tells each piece's number just once")


def refuse_order_of(order, fewest, most):
    if len(order) < fewest or len(order) > most:
        raise BadOrder("an order of too few or too many pieces")
    refuse_order(order, len(order))


def refuse_turned(turned, pieces):
    if len(turned) != pieces:
        raise BadTurned("a list of turns has one entry for each piece")


def turns_told(turned, pieces):
    # An empty list of turns is one that is too short, so only None stands for none handed in.
    if turned is None:
        return (False,) * pieces
    refuse_turned(turned, pieces)
    return tuple(turned)


def first_places(lengths, order):
    firsts = [0] * len(lengths)
    place = 0
    for piece in order:
        firsts[piece] = place
        place = place + lengths[piece]
    return tuple(firsts)


class Line:
    def __init__(self, lengths, order, turned=None):
        refuse_lengths(lengths)
        refuse_order(order, len(lengths))
        self.turned = turns_told(turned, len(lengths))
        self.lengths = tuple(lengths)
        self.order = tuple(order)
        self.starts = first_places(self.lengths, list(range(len(lengths))))
        self.laid = first_places(self.lengths, self.order)
        self.size = sum(self.lengths)
