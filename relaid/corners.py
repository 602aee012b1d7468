"""Corners and handles: the surface that comes of a disc whose pieces above are glued to those below."""

from relaid.errors import TooMany
from relaid.lines import MOST_PIECES, refuse_order_of

MOST_IN_SETS = 12


def refuse_pieces(order):
    refuse_order_of(order, 1, MOST_PIECES)


def left_end(piece):
    return 2 * piece


def right_end(piece):
    return 2 * piece + 1


def meetings_along(row):
    return [(right_end(piece), left_end(behind)) for piece, behind in zip(row[:-1], row[1:])]


def meetings(order):
    last = len(order) - 1
    outer = [(left_end(0), left_end(order[0])), (right_end(last), right_end(order[last]))]
    return meetings_along(list(range(len(order)))) + meetings_along(order) + outer


def corners_by_end(order):
    # Each end bears the least end that it is joined with, so that the corners rise as their first ends do.
    least = list(range(2 * len(order)))
    for one, two in meetings(order):
        kept = min(least[one], least[two])
        gone = max(least[one], least[two])
        least = [kept if end == gone else end for end in least]
    firsts = sorted(set(least))
    return [firsts.index(end) for end in least]


def corner_ends(order):
    refuse_pieces(order)
    corners = corners_by_end(order)
    return (corners[::2], corners[1::2])


def number_of_corners(order):
    return max(corners_by_end(order)) + 1


def corner_turns(order):
    rights = corner_ends(order)[1][:-1]
    return [rights.count(corner) for corner in range(number_of_corners(order))]


def handles_of(order):
    refuse_pieces(order)
    return (len(order) - number_of_corners(order) + 1) // 2


def crossings_of(order):
    refuse_pieces(order)
    crossings = []
    for at, later in enumerate(order):
        crossings.extend([(earlier, later) for earlier in order[at + 1:] if earlier < later])
    return sorted(crossings)


def sets_with(piece, crossed, sets):
    told = []
    for members, number in sets:
        pairs = len([one for one in crossed if one in members])
        told.append((members + (piece,), number + 1 + pairs))
    return told


def even_sets(order):
    crossings = crossings_of(order)
    if len(order) > MOST_IN_SETS:
        raise TooMany("sets of more than 12 pieces are not gone through")
    # Each set stands with the number of its pieces and of its crossing pairs together.
    sets = [((), 0)]
    for piece in range(len(order)):
        crossed = [earlier for earlier, later in crossings if later == piece]
        sets = sets + sets_with(piece, crossed, sets)
    return len([number for members, number in sets if number % 2 == 0])
