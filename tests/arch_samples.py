"""Arches that the tests share, small and great, and their ends and strands, walked dot by dot."""

from itertools import product
from random import Random

from samples import GREATEST

ROWS_OF = {size: [row for many in range(1, size + 1) for row in product(range(1, size + 1), repeat=many)
                  if sum(row) == size] for size in range(1, 7)}


def drawn_blocks(draw, blocks, size):
    """So many lengths that sum to the size."""
    cuts = {0, size}
    while len(cuts) < blocks + 1:
        cuts.add(draw.randrange(1, size))
    cuts = sorted(cuts)
    return [end - start for start, end in zip(cuts, cuts[1:])]


def small_told():
    """Blocks above and below of few dots: all rows of up to six dots, and drawn ones of up to 12 blocks."""
    draw = Random(96)
    told = [(above, below) for size in ROWS_OF for above in ROWS_OF[size] for below in ROWS_OF[size]]
    for _ in range(200):
        size = draw.randint(12, 60)
        told.append(tuple(drawn_blocks(draw, draw.randint(1, 12), size) for _ in range(2)))
    return told


def great_told():
    draw = Random(97)
    told = [([GREATEST], [GREATEST]), ([GREATEST - 1], [1, GREATEST - 2]), ([GREATEST - 11] + [1] * 11, [GREATEST]),
            ([2 * 10 ** 29, 8 * 10 ** 29], [7 * 10 ** 29, 3 * 10 ** 29])]
    for size in (10 ** 28, GREATEST - 1, GREATEST):
        for blocks in (1, 2, 3, 11, 12):
            told.append((drawn_blocks(draw, blocks, size), drawn_blocks(draw, 12, size)))
            told.append((drawn_blocks(draw, 12, size), drawn_blocks(draw, blocks, size)))
    return told


def walked_ends(lengths):
    """By dot: the other end of its arch, or None; each block's arches drawn from its ends inwards."""
    ends = [None] * sum(lengths)
    first = 0
    for length in lengths:
        left, right = first, first + length - 1
        while left < right:
            ends[left], ends[right] = right, left
            left, right = left + 1, right - 1
        first += length
    return ends


def led(ends):
    """By dot: the other end of its arch, or the dot itself."""
    return [x if end is None else end for x, end in enumerate(ends)]


def telling_dots(lengths):
    """Dots at the ends and in the middle of each block, each with the other end of its arch."""
    told = []
    first = 0
    for length in lengths:
        for offset in {0, 1, (length - 1) // 2, length // 2, length - 2, length - 1}:
            if 0 <= offset < length:
                end = length - 1 - offset
                told.append((first + offset, None if end == offset else first + end))
        first += length
    return told


def walked_strands(up, down):
    """All strands, each a rising list of its dots, by going along arches from dot to dot."""
    strands = []
    seen = set()
    for x in range(len(up)):
        if x not in seen:
            strand, open_dots = {x}, [x]
            while open_dots:
                dot = open_dots.pop()
                for end in (up[dot], down[dot]):
                    if end is not None and end not in strand:
                        strand.add(end)
                        open_dots.append(end)
            seen |= strand
            strands.append(sorted(strand))
    return strands


def walked_kinds(above, below):
    """All strands with their kinds: pairs of "loop" or "way" and the rising list of dots."""
    up, down = walked_ends(above), walked_ends(below)
    return [("way" if any(up[x] is None or down[x] is None for x in strand) else "loop", strand)
            for strand in walked_strands(up, down)]


def odd_blocks(above, below):
    return sum(length % 2 for length in list(above) + list(below))
