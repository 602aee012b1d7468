"""Plain lines: the same going, cut into as few pieces as it can be."""

from relaid.lines import Line


class Stretch:
    # Places side by side that are laid side by side: like a piece, but there may be more of them than of pieces.
    def __init__(self, first, length, laid, turned):
        self.first = first
        self.length = length
        self.laid = laid
        # A place by itself lies there alike, turned or not.
        self.turned = turned and length > 1


def stretches_of(line):
    return [Stretch(line.starts[piece], length, line.laid[piece], line.turned[piece])
            for piece, length in enumerate(line.lengths)]


def first_goes(stretch):
    return stretch.laid + stretch.length - 1 if stretch.turned else stretch.laid


def last_goes(stretch):
    return stretch.laid if stretch.turned else stretch.laid + stretch.length - 1


def go_together(one, two):
    return abs(first_goes(two) - last_goes(one)) == 1


def made_one(one, two):
    return Stretch(one.first, one.length + two.length, min(one.laid, two.laid), two.laid < one.laid)


def longest(stretches):
    # No two places go to one place, so a stretch that grows never turns on its way.
    told = []
    for stretch in stretches:
        if told and go_together(told[-1], stretch):
            told[-1] = made_one(told[-1], stretch)
        else:
            told.append(stretch)
    return told


def line_of(stretches):
    order = sorted(range(len(stretches)), key=lambda piece: stretches[piece].laid)
    lengths = [stretch.length for stretch in stretches]
    return Line(lengths, order, [stretch.turned for stretch in stretches])


def plain(line):
    return line_of(longest(stretches_of(line)))


def same(one, two):
    first = plain(one)
    second = plain(two)
    return first.lengths == second.lengths and first.order == second.order and first.turned == second.turned
