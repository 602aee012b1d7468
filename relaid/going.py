"""The going of a line: where each place goes, and from where each is come to."""

from relaid.errors import Outside


def piece_holding(firsts, lengths, x):
    # The stretches leave no gap, so a number that lies in none of them is no place of the line.
    for piece, first in enumerate(firsts):
        if first <= x and x < first + lengths[piece]:
            return piece
    raise Outside("no such place on the line")


def moved(line, piece, offset, firsts):
    # A turn undoes itself, so the way back takes the same sum as the way on.
    if line.turned[piece]:
        return firsts[piece] + line.lengths[piece] - 1 - offset
    return firsts[piece] + offset


def piece_at(line, x):
    return piece_holding(line.starts, line.lengths, x)


def goes(line, x):
    piece = piece_at(line, x)
    return moved(line, piece, x - line.starts[piece], line.laid)


def comes(line, x):
    piece = piece_holding(line.laid, line.lengths, x)
    return moved(line, piece, x - line.laid[piece], line.starts)
