"""Strands: the loops and ways that one comes along by going from arch to arch."""

from relaid.arches import arch_above
from relaid.rounds import between, round_length, rounds


def led_above(arches, x):
    end = arch_above(arches, x)
    return x if end is None else end


def in_one_round(arches, x, y):
    return between(arches.chart, x, y) is not None


def strand(arches, x):
    # Of a way's one round both ends of each arch are; of a loop's two rounds each has one of them.
    length = round_length(arches.chart, x)
    if in_one_round(arches, x, led_above(arches, x)):
        return ("way", length)
    return ("loop", 2 * length)


def together(arches, x, y):
    return in_one_round(arches, x, y) or in_one_round(arches, led_above(arches, x), y)


def middles(lengths):
    told = []
    first = 0
    for length in lengths:
        if length % 2 == 1:
            told.append(first + length // 2)
        first = first + length
    return told


def numbers_of_ways(arches):
    # Each way is come to twice: from the dots that lack an arch at its ends, or from one dot that lacks both.
    ends = {}
    for x in middles(arches.above) + middles(arches.below):
        length = round_length(arches.chart, x)
        ends[length] = ends.get(length, 0) + 1
    return [("way", length, ends[length] // 2) for length in sorted(ends)]


def numbers_of_loops(arches, ways):
    of_ways = {}
    for word, dots, number in ways:
        of_ways[dots] = number
    left = [(length, number - of_ways.get(length, 0)) for length, number in rounds(arches.chart)]
    return [("loop", 2 * length, number // 2) for length, number in left if number > 0]


def strands(arches):
    ways = numbers_of_ways(arches)
    return numbers_of_loops(arches, ways) + ways


def loops_and_ways(arches):
    told = strands(arches)
    loops = sum([number for word, dots, number in told if word == "loop"])
    ways = sum([number for word, dots, number in told if word == "way"])
    return (loops, ways)
