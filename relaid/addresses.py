"""Addresses: each place of a line told by a band, an offset in it, and the goings that lead there."""

from relaid.errors import BadAddress, Outside
from relaid.rests import letter_at, rest_comes, rest_goes


class Spot:
    # A place of some rest, the letter that it lies in there, and the goings of the line that are still due from it.
    def __init__(self, letter, y, due):
        self.letter = letter
        self.y = y
        self.due = due


def share_of(chart, at):
    # Each of a step's times leaves out as many places, and a winner told by times goes by just so many places.
    return (chart.rests[at].size - chart.rests[at + 1].size) // chart.steps[at].times


def come_from(chart, at, y):
    # The last place below the size of the rest behind that leads to y, and how many goings of the line lead there.
    rest = chart.rests[at]
    step = chart.steps[at]
    towers = chart.towers[at]
    share = share_of(chart, at)
    if step.own_first():
        times = (rest.size - 1 - y) // share
        come = rest_comes(rest, y + times * share)
        return (come, towers[letter_at(rest, come)] + times * towers[step.winner])
    times = (y - chart.rests[at + 1].size) // share
    return (rest_comes(rest, y) - times * share, (times + 1) * towers[step.winner])


def address(chart, x):
    if x < 0 or x >= chart.line.size:
        raise Outside("no such place on the line")
    at = 0
    y = x
    level = 0
    # Sizes become less from rest to rest, so each place is left out by just one step, and a home ends the search.
    while y < chart.rests[at + 1].size or chart.steps[at].word() != "home":
        if y >= chart.rests[at + 1].size:
            come = come_from(chart, at, y)
            y = come[0]
            level = level + come[1]
        at = at + 1
    start = chart.rests[at + 1].size
    return ([band[0] for band in chart.bands].index(start), y - start, level)


def refuse_address(chart, told):
    if told[0] < 0 or told[0] >= len(chart.bands):
        raise BadAddress("no such band")
    band = chart.bands[told[0]]
    if told[1] < 0 or told[1] >= band[1]:
        raise BadAddress("no such offset in the band")
    if told[2] < 0 or told[2] >= band[2]:
        raise BadAddress("no such level of the band")


def lifted_own_first(chart, at, spot):
    step = chart.steps[at]
    towers = chart.towers[at]
    due = spot.due - towers[spot.letter]
    if due < 0:
        return spot
    times = due // towers[step.winner]
    y = rest_goes(chart.rests[at], spot.y) - times * share_of(chart, at)
    return Spot(step.winner, y, due - times * towers[step.winner])


def lifted_own_last(chart, at, spot):
    step = chart.steps[at]
    tower = chart.towers[at][step.winner]
    times = min(spot.due // tower, step.times)
    if times == 0:
        return Spot(step.winner, spot.y, spot.due)
    letter = spot.letter if times == step.times else step.winner
    y = rest_goes(chart.rests[at], spot.y) + (times - 1) * share_of(chart, at)
    return Spot(letter, y, spot.due - times * tower)


def lifted(chart, at, spot):
    # From the rest behind a step to the rest ahead: there fewer goings than the tower of the spot's letter are due.
    step = chart.steps[at]
    if spot.letter not in step.losers(chart.rests[at]):
        return spot
    if step.own_first():
        return lifted_own_first(chart, at, spot)
    return lifted_own_last(chart, at, spot)


def place(chart, told):
    refuse_address(chart, told)
    start = chart.bands[told[0]][0]
    home = [rest.size for rest in chart.rests].index(start) - 1
    spot = Spot(chart.steps[home].winner, start + told[1], told[2])
    for at in range(home - 1, -1, -1):
        spot = lifted(chart, at, spot)
    return spot.y
