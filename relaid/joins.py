"""Joins: lines whose goings are done behind one another, the line back, and a line repeated."""

from relaid.errors import TooMany, Unlike
from relaid.lines import MOST_PIECES
from relaid.plain import Stretch, line_of, longest, stretches_of


def parts_between(one, two):
    # The places of one that are laid on places of two, as they are laid by both.
    begin = max(one.laid, two.first)
    one_end = one.laid + one.length
    two_end = two.first + two.length
    end = min(one_end, two_end)
    if begin >= end:
        return []
    first = one.first + (one_end - end if one.turned else begin - one.laid)
    laid = two.laid + (two_end - end if two.turned else begin - two.first)
    return [Stretch(first, end - begin, laid, one.turned != two.turned)]


def joined_stretches(ones, twos):
    parts = []
    for one in ones:
        for two in twos:
            parts.extend(parts_between(one, two))
    return longest(sorted(parts, key=lambda part: part.first))


def back_stretches(line):
    back = [Stretch(stretch.laid, stretch.length, stretch.first, stretch.turned) for stretch in stretches_of(line)]
    return sorted(back, key=lambda stretch: stretch.first)


def line_within(stretches):
    if len(stretches) > MOST_PIECES:
        raise TooMany("the line would have more than 24 pieces")
    return line_of(stretches)


def joined(one, two):
    if one.size != two.size:
        raise Unlike("only lines of one size are joined")
    return line_within(joined_stretches(stretches_of(one), stretches_of(two)))


def back_line(line):
    return line_of(longest(back_stretches(line)))


def repeated(line, times):
    once = longest(stretches_of(line) if times > 0 else back_stretches(line))
    # Only what comes at last is a line: on the way there may be more stretches than a line has pieces.
    told = [Stretch(0, line.size, 0, False)]
    for turn in range(abs(times)):
        told = joined_stretches(told, once)
    return line_within(told)
