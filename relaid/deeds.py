"""Deeds: what a row of the desk makes of a line; None where the row is to be refused."""

from relaid.going import piece_at
from relaid.lines import MOST_PIECES, Line
from relaid.rows import number_told


def numbers_behind_cut(line, cut_piece, piece):
    if piece < cut_piece:
        return [piece]
    if piece > cut_piece:
        return [piece + 1]
    # A piece that is turned about has its right part laid first.
    return [piece + 1, piece] if line.turned[piece] else [piece, piece + 1]


def cut(line, x):
    if x >= line.size or x in line.starts or len(line.lengths) == MOST_PIECES:
        return None
    piece = piece_at(line, x)
    left = x - line.starts[piece]
    parts = (left, line.lengths[piece] - left)
    lengths = line.lengths[:piece] + parts + line.lengths[piece + 1:]
    order = []
    for laid in line.order:
        order.extend(numbers_behind_cut(line, piece, laid))
    return Line(lengths, order, line.turned[:piece + 1] + line.turned[piece:])


def turned_about(line, piece):
    if piece >= len(line.lengths):
        return None
    turned = list(line.turned)
    turned[piece] = not turned[piece]
    return Line(line.lengths, line.order, turned)


def laid_at(line, piece, position):
    if piece >= len(line.order) or position >= len(line.order):
        return None
    order = [other for other in line.order if other != piece]
    order.insert(position, piece)
    return Line(line.lengths, order, line.turned)


def made_long(line, piece, length):
    if piece >= len(line.lengths) or length == 0:
        return None
    if line.size - line.lengths[piece] + length > 10 ** 30:
        return None
    lengths = list(line.lengths)
    lengths[piece] = length
    return Line(lengths, line.order, line.turned)


def line_behind(line, row):
    words = row.split(" ")
    numbers = [number_told(word) for word in words[1:]]
    if None in numbers:
        return None
    form = (words[0], len(numbers))
    if form == ("cut", 1):
        return cut(line, numbers[0])
    if form == ("turn", 1):
        return turned_about(line, numbers[0])
    if form == ("lay", 2):
        return laid_at(line, numbers[0], numbers[1])
    if form == ("long", 2):
        return made_long(line, numbers[0], numbers[1])
    return None
