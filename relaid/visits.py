"""Visits: from which pieces a way sets out, and what it gathers by them."""

from relaid.addresses import address, homes_of, part_done


class Tally:
    # Whole goings of some rest, counted by letter, and the goings of the line that are still due of one more.
    def __init__(self, counts, letter, due):
        self.counts = counts
        self.letter = letter
        self.due = due


def tally_ahead(chart, at, tally):
    # The same goings of the line, counted by goings of the rest ahead of a step instead of those of the rest behind.
    step = chart.steps[at]
    part = part_done(chart, at, tally.letter, tally.due)
    lost = sum([tally.counts[loser] for loser in step.losers(chart.rests[at])])
    counts = list(tally.counts)
    counts[tally.letter] = counts[tally.letter] + part.own
    counts[step.winner] = counts[step.winner] + step.times * lost + part.times
    return Tally(counts, part.letter, part.due)


def floor_visits(chart, band, goings):
    # All places of a floor come through the same pieces, so times round a turned band need not be told apart.
    home = homes_of(chart)[band]
    winner = chart.steps[home].winner
    height = chart.bands[band][2]
    counts = [0] * len(chart.line.lengths)
    counts[winner] = goings // height
    tally = Tally(counts, winner, goings % height)
    for at in range(home - 1, -1, -1):
        tally = tally_ahead(chart, at, tally)
    return tuple(tally.counts)


def visits(chart, x, goings):
    told = address(chart, x)
    ahead = floor_visits(chart, told[0], told[2])
    reached = floor_visits(chart, told[0], told[2] + goings)
    return tuple([count - ahead[piece] for piece, count in enumerate(reached)])


def gathered(chart, x, goings, weights):
    return sum([weights[piece] * count for piece, count in enumerate(visits(chart, x, goings))])


def band_visits(chart):
    return [floor_visits(chart, number, band[2]) for number, band in enumerate(chart.bands)]
