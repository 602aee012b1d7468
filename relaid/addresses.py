"""Addresses: each place of a line told by a band, an offset in it, and the goings that lead there."""

from relaid.errors import BadAddress, Outside
from relaid.rests import letter_at, rest_comes, rest_goes


def share_of(chart, at):
    # Each of a step's times leaves out as many places, and a winner told by times goes by just so many places.
    return (chart.rests[at].size - chart.rests[at + 1].size) // chart.steps[at].times


def come_from(chart, at, y):
    # The last place below the size of the rest behind that leads to y, and how many goings of the line lead there.
    rest = chart.rests[at]
    step = chart.steps[at]
    towers = chart.towers[at]
    share = share_of(chart, at)
    if step.own_first():
        times = (rest.size - 1 - y) // share
        come = rest_comes(rest, y + times * share)
        return (come, towers[letter_at(rest, come)] + times * towers[step.winner])
    times = (y - chart.rests[at + 1].size) // share
    return (rest_comes(rest, y) - times * share, (times + 1) * towers[step.winner])


def address(chart, x):
    if x < 0 or x >= chart.line.size:
        raise Outside("no such place on the line")
    at = 0
    y = x
    level = 0
    # Sizes become less from rest to rest, so each place is left out by just one step, and a home ends the search.
    while y < chart.rests[at + 1].size or chart.steps[at].word() != "home":
        if y >= chart.rests[at + 1].size:
            come = come_from(chart, at, y)
            y = come[0]
            level = level + come[1]
        at = at + 1
    start = chart.rests[at + 1].size
    return ([band[0] for band in chart.bands].index(start), y - start, level)


def refuse_address(chart, told):
    if told[0] < 0 or told[0] >= len(chart.bands):
        raise BadAddress("no such band")
    band = chart.bands[told[0]]
    if told[1] < 0 or told[1] >= band[1]:
        raise BadAddress("no such offset in the band")
    if told[2] < 0 or told[2] >= band[2]:
        raise BadAddress("no such level of the band")


class Part:
    # How far a loser's going is done: its own goings and the winner's that are whole, the letter of the one that comes
    # then, and the goings of the line that are still due of that one.
    def __init__(self, own, times, letter, due):
        self.own = own
        self.times = times
        self.letter = letter
        self.due = due


def part_own_first(step, towers, letter, due):
    if due < towers[letter]:
        return Part(0, 0, letter, due)
    left = due - towers[letter]
    return Part(1, left // towers[step.winner], step.winner, left % towers[step.winner])


def part_own_last(step, towers, letter, due):
    times = min(due // towers[step.winner], step.times)
    coming = letter if times == step.times else step.winner
    return Part(0, times, coming, due - times * towers[step.winner])


def part_done(chart, at, letter, due):
    # From the rest behind a step to the rest ahead: there fewer goings than the tower of the told letter are due.
    step = chart.steps[at]
    if letter not in step.losers(chart.rests[at]):
        return Part(0, 0, letter, due)
    if step.own_first():
        return part_own_first(step, chart.towers[at], letter, due)
    return part_own_last(step, chart.towers[at], letter, due)


def gone_by_part(chart, at, y, part):
    if part.own == 0 and part.times == 0:
        return y
    gone = rest_goes(chart.rests[at], y)
    if chart.steps[at].own_first():
        return gone - part.times * share_of(chart, at)
    return gone + (part.times - 1) * share_of(chart, at)


def homes_of(chart):
    return [at for at, step in enumerate(chart.steps) if step.word() == "home"]


def place(chart, told):
    refuse_address(chart, told)
    home = homes_of(chart)[told[0]]
    y = chart.bands[told[0]][0] + told[1]
    letter = chart.steps[home].winner
    due = told[2]
    for at in range(home - 1, -1, -1):
        part = part_done(chart, at, letter, due)
        y = gone_by_part(chart, at, y, part)
        letter = part.letter
        due = part.due
    return y
