"""Steps: each shortens a rest, so that the rest behind it goes by first returns."""

from relaid.rests import Rest, length_of


def without(row, letter):
    return [other for other in row if other != letter]


def letters_behind(row, letter):
    return row[row.index(letter) + 1:]


def put_beside(row, winner, loser, ahead):
    others = without(row, loser)
    at = others.index(winner) if ahead else others.index(winner) + 1
    return others[:at] + [loser] + others[at:]


def changed(row, letter, entry):
    copied = list(row)
    copied[letter] = entry
    return copied


def shortened(rest, winner, less):
    return changed(rest.lengths, winner, rest.lengths[winner] - less)


def turns_behind(rest, winner, loser):
    # The loser's places go by both letters in a row, and two turns undo one another.
    return changed(rest.turned, loser, rest.turned[winner] != rest.turned[loser])


class Step:
    def __init__(self, winner, loser, times):
        self.winner = winner
        self.loser = loser
        self.times = times

    def word(self):
        return "step"

    def losers(self, rest):
        return (self.loser,)

    def own_first(self):
        return False

    def behind(self, rest):
        return rest


class Home(Step):
    def __init__(self, winner):
        Step.__init__(self, winner, None, 1)

    def word(self):
        return "home"

    def losers(self, rest):
        return ()

    def behind(self, rest):
        top = without(rest.top, self.winner)
        bottom = without(rest.bottom, self.winner)
        return Rest(top, bottom, changed(rest.lengths, self.winner, 0), changed(rest.turned, self.winner, False))


class Even(Step):
    def __init__(self, winner, loser):
        Step.__init__(self, winner, loser, 1)

    def word(self):
        return "even"

    def own_first(self):
        return True

    def behind(self, rest):
        top = without(rest.top, self.winner)
        bottom = without(put_beside(rest.bottom, self.winner, self.loser, False), self.winner)
        turned = changed(turns_behind(rest, self.winner, self.loser), self.winner, False)
        return Rest(top, bottom, changed(rest.lengths, self.winner, 0), turned)


class Over(Step):
    def __init__(self, winner, loser):
        Step.__init__(self, winner, loser, 1)

    def word(self):
        return "over"

    def own_first(self):
        return True

    def behind(self, rest):
        bottom = put_beside(rest.bottom, self.winner, self.loser, rest.turned[self.winner])
        lengths = shortened(rest, self.winner, rest.lengths[self.loser])
        return Rest(rest.top, bottom, lengths, turns_behind(rest, self.winner, self.loser))


class Under(Step):
    def __init__(self, winner, loser):
        Step.__init__(self, winner, loser, 1)

    def word(self):
        return "under"

    def behind(self, rest):
        top = put_beside(rest.top, self.winner, self.loser, rest.turned[self.winner])
        lengths = shortened(rest, self.winner, rest.lengths[self.loser])
        return Rest(top, rest.bottom, lengths, turns_behind(rest, self.winner, self.loser))


class Overs(Step):
    def __init__(self, winner, times):
        Step.__init__(self, winner, None, times)

    def word(self):
        return "overs"

    def losers(self, rest):
        return letters_behind(rest.bottom, self.winner)

    def own_first(self):
        return True

    def behind(self, rest):
        lengths = shortened(rest, self.winner, self.times * length_of(rest, self.losers(rest)))
        return Rest(rest.top, rest.bottom, lengths, rest.turned)


class Unders(Step):
    def __init__(self, winner, times):
        Step.__init__(self, winner, None, times)

    def word(self):
        return "unders"

    def losers(self, rest):
        return letters_behind(rest.top, self.winner)

    def behind(self, rest):
        lengths = shortened(rest, self.winner, self.times * length_of(rest, self.losers(rest)))
        return Rest(rest.top, rest.bottom, lengths, rest.turned)


def whole_times(rest, winner, row):
    # A turned winner takes its losers one by one, and 0 tells that it isn't longer than all of them together.
    if rest.turned[winner]:
        return 0
    return (rest.lengths[winner] - 1) // length_of(rest, letters_behind(row, winner))


def over_step(rest, winner, loser):
    times = whole_times(rest, winner, rest.bottom)
    return Overs(winner, times) if times > 0 else Over(winner, loser)


def under_step(rest, winner, loser):
    times = whole_times(rest, winner, rest.top)
    return Unders(winner, times) if times > 0 else Under(winner, loser)


def next_step(rest):
    last_top = rest.top[-1]
    last_bottom = rest.bottom[-1]
    if last_top == last_bottom:
        return Home(last_top)
    if rest.lengths[last_top] == rest.lengths[last_bottom]:
        return Even(last_top, last_bottom)
    if rest.lengths[last_top] > rest.lengths[last_bottom]:
        return over_step(rest, last_top, last_bottom)
    return under_step(rest, last_bottom, last_top)
