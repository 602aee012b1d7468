"""Lines, charts and rests that the tests share, and what the document asks of them, worked out place by place."""

import signal
import unittest
from itertools import permutations, product
from random import Random

from relaid.charts import Chart
from relaid.going import goes
from relaid.lines import Line
from relaid.rests import Rest

GREATEST = 10 ** 30
FARTHEST = 10 ** 60
FACTORS = (2, 3, 10 ** 27, 10 ** 27 + 1)
MOST_SECONDS = 30


class Timed(unittest.TestCase):
    """Tests of what must come to an end quickly: each fails where it goes on and on."""

    def setUp(self):
        signal.signal(signal.SIGALRM, self.too_long)
        signal.alarm(MOST_SECONDS)
        self.addCleanup(signal.alarm, 0)

    def too_long(self, number, frame):
        self.fail("not done within half a minute")

    def refused(self, error, asked, *told):
        with self.assertRaises(error) as caught:
            asked(*told)
        self.assertIs(type(caught.exception), error)


def told_lines():
    """A few lines as they are handed in: lengths, order, turns."""
    many = [3 * (p % 5) + 1 for p in range(24)]
    shuffled = [(7 * p + 5) % 24 for p in range(24)]
    great = [10 ** 28 + p for p in range(23)]
    great.append(GREATEST - sum(great))
    return [
        ([1], [0], [False]),
        ([1], [0], [True]),
        ([7], [0], [True]),
        ([2, 3], [1, 0], [False, True]),
        ([3, 1, 4], [2, 0, 1], [True, False, True]),
        ([1, 1, 1, 1], [3, 1, 0, 2], [True, True, False, True]),
        ([5, 2, 9, 1, 4], [3, 0, 4, 2, 1], [False, True, True, False, False]),
        ([1] * 24, list(range(23, -1, -1)), [True] * 24),
        (many, shuffled, [p % 3 == 1 for p in range(24)]),
        ([GREATEST], [0], [False]),
        ([GREATEST], [0], [True]),
        ([1, GREATEST - 2, 1], [1, 2, 0], [False, True, False]),
        (great, shuffled, [p % 2 == 0 for p in range(24)]),
    ]


def small_told_lines():
    """All lines of up to three pieces of 1 to 3 places, as they are handed in."""
    told = []
    for pieces in (1, 2, 3):
        for lengths in product((1, 2, 3), repeat=pieces):
            for order in permutations(range(pieces)):
                for turned in product((False, True), repeat=pieces):
                    told.append((lengths, order, turned))
    return told


def small_lines():
    """The small lines, and those of the told ones that can be gone through place by place."""
    small = [told for told in told_lines() if sum(told[0]) < 1000]
    return [Line(*told) for told in small_told_lines() + small]


def drawn_told_lines(pieces, greatest, number, turning=(0, 1, 2)):
    """Lines of up to so many pieces with lengths up to the greatest, the same ones each time.

    Of each two pieces none, one or both are turned, by the number drawn from `turning`.
    """
    draw = Random(10 * pieces + number)
    told = []
    for _ in range(number):
        many = draw.randint(2, pieces)
        turns = draw.choice(turning)
        order = list(range(many))
        draw.shuffle(order)
        lengths = [draw.randint(1, draw.choice((3, greatest))) for _ in range(many)]
        told.append((lengths, order, [draw.randrange(2) < turns for _ in range(many)]))
    return told


def full_told_lines():
    """Lines of 24 pieces, all of great lengths, the same ones each time, with no, some and all pieces turned."""
    draw = Random(24)
    told = []
    for turns in (0, 1, 2):
        order = list(range(24))
        draw.shuffle(order)
        lengths = [draw.randint(10 ** 27, 4 * 10 ** 28) for _ in order]
        told.append((lengths, order, [draw.randrange(2) < turns for _ in order]))
    return told


def great_told_lines():
    """Lines of 24 pieces and great lengths, and some on which a step that isn't told by times would go on and on."""
    fast = [([1, 10 ** 28], [1, 0], [False, False]), ([10 ** 28, 1], [1, 0], [False, False]),
            ([10 ** 28, 10 ** 28 - 1, 1], [2, 1, 0], [False, True, False]),
            ([1] * 23 + [10 ** 28], list(range(23, -1, -1)), [False] * 24),
            ([10 ** 28] + [1] * 23, list(range(23, -1, -1)), [False] * 24),
            ([10 ** 28 + p * p for p in range(24)], list(range(23, -1, -1)), [False] * 24)]
    return fast + full_told_lines() + drawn_told_lines(24, 4 * 10 ** 28, 30)


def all_told():
    return told_lines() + small_told_lines() + drawn_told_lines(7, 12, 200) + great_told_lines()


def walked_lines():
    """Lines that can be gone through place by place."""
    return small_lines() + [Line(*told) for told in drawn_told_lines(7, 12, 200)]


def walked_charts():
    """Charts of lines that can be gone through place by place, each with the places gone to, by place."""
    return [(Chart(line), gone_by(line)) for line in walked_lines()]


def great_lines():
    """Lines with great lengths or 24 pieces."""
    told = [one for one in told_lines() if sum(one[0]) > 10 ** 9 or len(one[0]) == 24]
    return [Line(*one) for one in told + great_told_lines()]


def great_charts():
    return [Chart(line) for line in great_lines()]


def places_near(line, near, most):
    """Places of a line at and beside the told ones, and some others: at most so many of all these."""
    draw = Random(line.size)
    places = [x + more for x in near for more in (-1, 0, 1)] + [draw.randrange(line.size) for _ in range(20)]
    places = sorted({x for x in places if 0 <= x < line.size})
    return sorted(draw.sample(places, min(most, len(places))))


def piece_ends(line, most=1000):
    """Places of a line near the ends of its pieces, as they lie and as they are laid, and some others."""
    return places_near(line, line.starts + line.laid + (line.size,), most)


def telling_places(chart, most=1000):
    """Places of a line near the ends of its pieces and of its chart's bands, and some others."""
    near = list(chart.line.starts + chart.line.laid) + [chart.line.size]
    for start, width, _, _ in chart.bands:
        near += [start, start + width, start + width // 2]
    return places_near(chart.line, near, most)


def outside_places(line):
    """Numbers that are no places of a line."""
    size = line.size
    return [-1, -2, -size, -size - 1, -GREATEST, -10 ** 60, size, size + 1, 2 * size, size + GREATEST, 10 ** 60]


def laid_rows(top, bottom, lengths, turned):
    """By place, after the laying: the place that lies there now. The document's words done with real rows."""
    stretches = {}
    first = 0
    for letter in top:
        stretches[letter] = list(range(first, first + lengths[letter]))
        first += lengths[letter]
    row = []
    for letter in bottom:
        row.extend(stretches[letter][::-1] if turned[letter] else stretches[letter])
    return row


def laid_out(lengths, order, turned):
    return laid_rows(range(len(lengths)), order, lengths, turned)


def gone_rows(top, bottom, lengths, turned):
    """By place: the place that it goes to."""
    row = laid_rows(top, bottom, lengths, turned)
    gone = [0] * len(row)
    for y, x in enumerate(row):
        gone[x] = y
    return gone


def gone_by(line):
    """By place of a line: the place that it goes to."""
    return gone_rows(range(len(line.lengths)), line.order, line.lengths, line.turned)


def letters_of(top, lengths):
    """By place: the letter of the top row in whose stretch it lies."""
    return [letter for letter in top for _ in range(lengths[letter])]


def first_return(gone, x, size):
    """The places gone through from x till one below the size is come to again: x first, that one last."""
    way = [x, gone[x]]
    while way[-1] >= size:
        way.append(gone[way[-1]])
    return way


def rest_fields(rest):
    return (rest.top, rest.bottom, rest.lengths, rest.turned, rest.size)


def told_rest(rest):
    """What a rest is made of: the rows, the lengths and the turns."""
    return rest_fields(rest)[:4]


def small_told_rests():
    """Rests of up to three letters of 1, 2 or 5 places, as they are handed in, some with letters that are gone."""
    told = []
    for letters in ((0,), (1, 2), (0, 1, 2), (4, 0, 2)):
        for lengths in product((1, 2, 5), repeat=len(letters)):
            for turned in product((False, True), repeat=len(letters)):
                length_of = dict(zip(letters, lengths))
                turn_of = dict(zip(letters, turned))
                rows = ([length_of.get(letter, 0) for letter in range(6)],
                        [turn_of.get(letter, False) for letter in range(6)])
                for bottom in permutations(letters):
                    told.append((list(letters), list(bottom)) + rows)
                    told.append((list(letters)[::-1], list(bottom)) + rows)
    return told


def drawn_told_rests():
    """Rests of up to six letters, top rows in any order, the same ones each time."""
    draw = Random(77)
    told = []
    for lengths, order, turned in drawn_told_lines(6, 9, 300):
        top = list(range(len(lengths)))
        draw.shuffle(top)
        told.append((top, order, lengths, turned))
    return told


def small_rests():
    return [Rest(*told) for told in small_told_rests() + drawn_told_rests()]


def fought(rest):
    """Word, winner and loser where the last letters are neither the same nor as long; with the letters behind the
    winner in the other row, and how often they fit into it whole, some of it being left: never where it is turned."""
    top, bottom, lengths, turned, _ = rest_fields(rest)
    a, b = top[-1], bottom[-1]
    word, winner, loser, row = ("over", a, b, bottom) if lengths[a] > lengths[b] else ("under", b, a, top)
    losers = row[row.index(winner) + 1:]
    s = sum(lengths[letter] for letter in losers)
    most = (lengths[winner] - 1) // s if not turned[winner] and lengths[winner] > s else 0
    return word, winner, loser, losers, most


def closed(rest):
    """The only step that may be done where the last letters are the same, or as long; else None."""
    a, b = rest.top[-1], rest.bottom[-1]
    if a == b:
        return ("home", a, 1, ())
    return ("even", a, 1, (b,)) if rest.lengths[a] == rest.lengths[b] else None


def step_told(rest):
    """The next step by the words of 3.3: word, winner, times and losers."""
    if closed(rest):
        return closed(rest)
    word, winner, loser, losers, most = fought(rest)
    return (word + "s", winner, most, losers) if most else (word, winner, 1, (loser,))


def fitting(rest):
    """All that may be done at a rest, the next step or not, told likewise."""
    if closed(rest):
        return [closed(rest)]
    word, winner, loser, losers, most = fought(rest)
    return [(word, winner, 1, (loser,))] + [(word + "s", winner, times, losers) for times in range(1, most + 1)]


def behind_told(rest, told):
    """Rows, lengths and turns behind a step, by the words of 3.3."""
    word, winner, times, losers = told
    rows = {"top": list(rest.top), "bottom": list(rest.bottom)}
    lengths, turned = list(rest.lengths), list(rest.turned)
    if word in ("even", "over", "under"):
        row = rows["top" if word == "under" else "bottom"]
        loser = losers[0]
        row.remove(loser)
        at = row.index(winner)
        row.insert(at if word == "even" or turned[winner] else at + 1, loser)
        turned[loser] = (turned[winner], turned[loser]) in ((True, False), (False, True))
    if word in ("home", "even"):
        rows["top"].remove(winner)
        rows["bottom"].remove(winner)
        lengths[winner], turned[winner] = 0, False
    else:
        lengths[winner] -= times * sum(rest.lengths[loser] for loser in losers)
    return (tuple(rows["top"]), tuple(rows["bottom"]), tuple(lengths), tuple(turned))


def round_of(gone, x):
    """The places of the round of x, as it comes through them, x first."""
    way = [x]
    while gone[way[-1]] != x:
        way.append(gone[way[-1]])
    return way


def counted(lengths):
    """Pairs of a length and how often it is there, by rising lengths."""
    return [(length, lengths.count(length)) for length in sorted(set(lengths))]


def all_rounds(gone):
    seen = set()
    ways = []
    for x in range(len(gone)):
        if x not in seen:
            ways.append(round_of(gone, x))
            seen |= set(ways[-1])
    return ways


class Drawn:
    """A small line, each place of which is drawn out to a stretch of as many places: a stretch goes as its place did,
    and is turned about where the place's piece is turned. So great lines are known by walks on small ones."""

    def __init__(self, told, factor):
        lengths, order, turned = told
        self.factor = factor
        self.gone = gone_by(Line(lengths, order, turned))
        self.pieces = letters_of(range(len(lengths)), lengths)
        self.turns = [turned[piece] for piece in self.pieces]
        self.chart = Chart(Line([factor * length for length in lengths], order, turned))

    def turned_round(self, way):
        return sum(self.turns[x] for x in way) % 2 == 1

    def after(self, x, goings):
        small, offset = divmod(x, self.factor)
        way = round_of(self.gone, small)
        times_round, more = divmod(goings, len(way))
        turns = sum(self.turns[x] for x in way[:more]) + times_round * sum(self.turns[x] for x in way)
        return way[more] * self.factor + (self.factor - 1 - offset if turns % 2 else offset)

    def visits(self, x, goings):
        way = round_of(self.gone, x // self.factor)
        times_round, more = divmod(goings, len(way))
        through = [[self.pieces[x] for x in part] for part in (way, way[:more])]
        return tuple(times_round * through[0].count(piece) + through[1].count(piece)
                     for piece in range(len(self.chart.line.lengths)))

    def round_length(self, x):
        small, offset = divmod(x, self.factor)
        way = round_of(self.gone, small)
        return len(way) * (2 if self.turned_round(way) and 2 * offset != self.factor - 1 else 1)

    def rounds(self):
        counts = {}
        for way in all_rounds(self.gone):
            many = {len(way): self.factor}
            if self.turned_round(way):
                many = {len(way): self.factor % 2, 2 * len(way): self.factor // 2}
            for length in many:
                counts[length] = counts.get(length, 0) + many[length]
        return [(length, counts[length]) for length in sorted(counts) if counts[length]]

    def places(self):
        return [small * self.factor + offset for small in range(len(self.gone))
                for offset in sorted({0, self.factor // 2, self.factor - 1})]


def drawn_out():
    told = drawn_told_lines(5, 4, 12) + small_told_lines()[::97]
    return [Drawn(one, factor) for one in told for factor in FACTORS]


def line_fields(line):
    return (line.lengths, line.order, line.turned)


def plain_told(gone):
    """Lengths, order and turns of the plain line of a going, by the words of 8.1, place by place."""
    stretches = [[0]]
    for x in range(1, len(gone)):
        if abs(gone[x] - gone[x - 1]) == 1:
            stretches[-1].append(x)
        else:
            stretches.append([x])
    lengths = tuple(len(stretch) for stretch in stretches)
    order = tuple(sorted(range(len(stretches)), key=lambda piece: gone[stretches[piece][0]]))
    turned = tuple(len(stretch) > 1 and gone[stretch[1]] < gone[stretch[0]] for stretch in stretches)
    return (lengths, order, turned)


def cut_otherwise(line, draw, most=24):
    """A line of the same going, cut into more pieces, up to the most or 24; turns of single places are drawn anew."""
    cuts = set(line.starts)
    while len(cuts) < min(most, 24, line.size):
        cuts.add(draw.randrange(line.size))
    cuts = sorted(cuts)
    lengths = [end - start for start, end in zip(cuts, cuts[1:] + [line.size])]
    laid = [min(goes(line, start), goes(line, start + length - 1)) for start, length in zip(cuts, lengths)]
    turned = [draw.random() < 0.5 if length == 1 else goes(line, start) > goes(line, start + 1)
              for start, length in zip(cuts, lengths)]
    return Line(lengths, sorted(range(len(cuts)), key=lambda piece: laid[piece]), turned)
