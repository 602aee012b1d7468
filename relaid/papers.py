"""Papers: rows of steps written down, by whomever, and whether they lead a line to nothing."""

from relaid.charts import bands_left, first_towers, towers_behind
from relaid.rests import rest_of
from relaid.steps import Even, Home, Over, Overs, Under, Unders, whole_times


def number_of(step):
    if step.word() == "home":
        return 0
    if step.word() == "overs" or step.word() == "unders":
        return step.times
    return step.loser


def paper_of(chart):
    return [(step.word(), step.winner, number_of(step)) for step in chart.steps]


def may_home(rest, winner, number):
    return winner == rest.top[-1] and winner == rest.bottom[-1] and number == 0


def ends_are(rest, last_top, last_bottom):
    # A row may name any letters, so these are looked for at the rest's ends ahead of asking for their lengths.
    return last_top != last_bottom and last_top == rest.top[-1] and last_bottom == rest.bottom[-1]


def may_even(rest, winner, loser):
    return ends_are(rest, winner, loser) and rest.lengths[winner] == rest.lengths[loser]


def may_over(rest, winner, loser):
    return ends_are(rest, winner, loser) and rest.lengths[winner] > rest.lengths[loser]


def may_under(rest, winner, loser):
    return ends_are(rest, loser, winner) and rest.lengths[winner] > rest.lengths[loser]


def may_overs(rest, winner, times):
    ends = ends_are(rest, winner, rest.bottom[-1])
    return ends and times >= 1 and times <= whole_times(rest, winner, rest.bottom)


def may_unders(rest, winner, times):
    ends = ends_are(rest, rest.top[-1], winner)
    return ends and times >= 1 and times <= whole_times(rest, winner, rest.top)


def step_of_row(rest, word, winner, number):
    if not rest.top:
        return None
    if word == "home" and may_home(rest, winner, number):
        return Home(winner)
    if word == "even" and may_even(rest, winner, number):
        return Even(winner, number)
    if word == "over" and may_over(rest, winner, number):
        return Over(winner, number)
    if word == "under" and may_under(rest, winner, number):
        return Under(winner, number)
    if word == "overs" and may_overs(rest, winner, number):
        return Overs(winner, number)
    if word == "unders" and may_unders(rest, winner, number):
        return Unders(winner, number)
    return None


def bands_led(line, paper):
    rest = rest_of(line)
    towers = first_towers(line)
    bands = []
    for word, winner, number in paper:
        step = step_of_row(rest, word, winner, number)
        if step is None:
            return None
        behind = step.behind(rest)
        bands.extend(bands_left(step, rest, behind, towers))
        towers = towers_behind(towers, step, rest, behind)
        rest = behind
    if rest.top:
        return None
    return bands


def examined(line, paper):
    return bands_led(line, paper) is not None
