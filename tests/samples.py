"""Lines that the tests share, and what the document asks of them, worked out place by place."""

from itertools import permutations, product

from relaid.lines import Line

GREATEST = 10 ** 30


def told_lines():
    """A few lines as they are handed in: lengths, order, turns."""
    many = [3 * (p % 5) + 1 for p in range(24)]
    shuffled = [(7 * p + 5) % 24 for p in range(24)]
    great = [10 ** 28 + p for p in range(23)]
    great.append(GREATEST - sum(great))
    return [
        ([1], [0], [False]),
        ([1], [0], [True]),
        ([7], [0], [True]),
        ([2, 3], [1, 0], [False, True]),
        ([3, 1, 4], [2, 0, 1], [True, False, True]),
        ([1, 1, 1, 1], [3, 1, 0, 2], [True, True, False, True]),
        ([5, 2, 9, 1, 4], [3, 0, 4, 2, 1], [False, True, True, False, False]),
        ([1] * 24, list(range(23, -1, -1)), [True] * 24),
        (many, shuffled, [p % 3 == 1 for p in range(24)]),
        ([GREATEST], [0], [False]),
        ([GREATEST], [0], [True]),
        ([1, GREATEST - 2, 1], [1, 2, 0], [False, True, False]),
        (great, shuffled, [p % 2 == 0 for p in range(24)]),
    ]


def small_told_lines():
    """All lines of up to three pieces of 1 to 3 places, as they are handed in."""
    told = []
    for pieces in (1, 2, 3):
        for lengths in product((1, 2, 3), repeat=pieces):
            for order in permutations(range(pieces)):
                for turned in product((False, True), repeat=pieces):
                    told.append((lengths, order, turned))
    return told


def small_lines():
    """The small lines, and those of the told ones that can be gone through place by place."""
    small = [told for told in told_lines() if sum(told[0]) < 1000]
    return [Line(*told) for told in small_told_lines() + small]


def laid_out(lengths, order, turned):
    """By place, after the laying: the place that lies there now. The document's words done with real rows."""
    stretches = []
    first = 0
    for length in lengths:
        stretches.append(list(range(first, first + length)))
        first += length
    row = []
    for piece in order:
        row.extend(stretches[piece][::-1] if turned[piece] else stretches[piece])
    return row
