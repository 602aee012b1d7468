"""Charts: the whole row of steps that shortens a line to nothing, its towers and its bands."""

from relaid.rests import rest_of
from relaid.steps import next_step


def first_towers(line):
    return (1,) * len(line.lengths)


def towers_behind(towers, step, rest, behind):
    losers = step.losers(rest)
    grown = towers[step.winner] * step.times
    told = []
    for letter, tower in enumerate(towers):
        if letter not in behind.top:
            told.append(0)
        elif letter in losers:
            told.append(tower + grown)
        else:
            told.append(tower)
    return tuple(told)


def bands_left(step, rest, behind, towers):
    if step.word() != "home":
        return []
    winner = step.winner
    return [(behind.size, rest.lengths[winner], towers[winner], rest.turned[winner])]


class Chart:
    def __init__(self, line):
        rest = rest_of(line)
        rests = [rest]
        steps = []
        towers = [first_towers(line)]
        bands = []
        while rest.size > 0:
            step = next_step(rest)
            behind = step.behind(rest)
            bands.extend(bands_left(step, rest, behind, towers[-1]))
            towers.append(towers_behind(towers[-1], step, rest, behind))
            steps.append(step)
            rests.append(behind)
            rest = behind
        self.line = line
        self.rests = tuple(rests)
        self.steps = tuple(steps)
        self.towers = tuple(towers)
        self.bands = tuple(bands)
