"""Arches: dots parted into blocks above and below, and joined within each block from its ends inwards."""

from relaid.charts import Chart
from relaid.errors import BadArches
from relaid.going import goes
from relaid.joins import joined
from relaid.lines import Line

MOST_BLOCKS = 12


def refuse_blocks(lengths):
    if len(lengths) == 0:
        raise BadArches("there is at least one block above, and one below")
    if len(lengths) > MOST_BLOCKS:
        raise BadArches("there are at most 12 blocks above, and 12 below")
    if min(lengths) < 1:
        raise BadArches("a block is at least 1 long")


def refuse_sums(above, below):
    if sum(above) != sum(below):
        raise BadArches("there are as many dots above as below")
    if sum(above) > 10 ** 30:
        raise BadArches("there are at most 10 ** 30 dots")


def turned_blocks(lengths):
    # A block turned about where it lies puts each dot on the other end of its arch, and a middle dot on itself.
    return Line(lengths, list(range(len(lengths))), [True] * len(lengths))


class Arches:
    def __init__(self, above, below):
        refuse_blocks(above)
        refuse_blocks(below)
        refuse_sums(above, below)
        self.above = tuple(above)
        self.below = tuple(below)
        self.size = sum(self.above)
        self.line = joined(turned_blocks(self.above), turned_blocks(self.below))
        self.chart = Chart(self.line)


def other_end(lengths, x):
    end = goes(turned_blocks(lengths), x)
    return None if end == x else end


def arch_above(arches, x):
    return other_end(arches.above, x)


def arch_below(arches, x):
    return other_end(arches.below, x)
