import unittest
from random import Random

from relaid.charts import Chart
from relaid.errors import Outside
from relaid.going import goes, piece_at
from relaid.lines import Line
from relaid.rounds import after, round_length
from relaid.visits import band_visits, gathered, visits
from samples import (FARTHEST, GREATEST, Timed, drawn_out, drawn_told_lines, great_charts, letters_of, outside_places,
                     small_lines, telling_places, told_lines, walked_charts)

FAR = (0, 1, 2, 10 ** 28, 10 ** 30 - 1, 7 ** 50, FARTHEST - 1, FARTHEST)
TURNS_OF_TWO = ((6, 4), (6 * 10 ** 29, 4 * 10 ** 29), (10 ** 29 + 7, 3 * 10 ** 29), (1, GREATEST - 1),
                (GREATEST - 2, 1), (5 ** 40, 2 ** 90), (3 ** 60, 3 ** 55))


def pieces_of(line):
    """By place: the piece that it lies in."""
    return letters_of(range(len(line.lengths)), line.lengths)


def counted_visits(gone, pieces, x, goings):
    """By piece: how many of the goings set out from it, as gone one by one."""
    counts = [0] * (pieces[-1] + 1)
    for _ in range(goings):
        counts[pieces[x]] += 1
        x = gone[x]
    return tuple(counts)


def all_visits(gone, pieces, x, most):
    """The visits of each number of goings from 0 up to the most, as gone one by one."""
    counts = [0] * (pieces[-1] + 1)
    told = [tuple(counts)]
    for _ in range(most):
        counts[pieces[x]] += 1
        x = gone[x]
        told.append(tuple(counts))
    return told


def summed(one, two):
    return tuple(a + b for a, b in zip(one, two, strict=True))


def some_weights(line, draw):
    """Weights of both signs, noughts and the greatest among them, one list after another."""
    pieces = len(line.lengths)
    return [[0] * pieces, [1] * pieces, [GREATEST] * pieces, [-GREATEST] * pieces,
            [draw.randint(-9, 9) for _ in range(pieces)],
            [draw.choice((0, GREATEST, -GREATEST, draw.randint(-GREATEST, GREATEST))) for _ in range(pieces)]]


def leads(line):
    """By piece: by how much a place of it is led on, where the piece isn't turned."""
    return [laid - start for start, laid in zip(line.starts, line.laid)]


def unturned_great_charts():
    told = drawn_told_lines(24, 4 * 10 ** 28, 20, (0,)) + [([one, two], [1, 0], None) for one, two in TURNS_OF_TWO]
    return [chart for chart in great_charts() if True not in chart.line.turned] + [Chart(Line(*one)) for one in told]


class Visits(Timed):
    def test_told(self):
        chart = Chart(Line([6, 4], [1, 0]))
        self.assertEqual([visits(chart, 0, goings) for goings in range(7)],
                         [(0, 0), (1, 0), (2, 0), (2, 1), (3, 1), (3, 2), (4, 2)])
        self.assertEqual([visits(chart, 9, goings) for goings in range(7)],
                         [(0, 0), (0, 1), (1, 1), (1, 2), (2, 2), (3, 2), (3, 3)])
        self.assertEqual(visits(chart, 7, FARTHEST), (3 * FARTHEST // 5, 2 * FARTHEST // 5))
        chart = Chart(Line([2, 3], [1, 0], [False, True]))
        self.assertEqual([visits(chart, 0, goings) for goings in range(5)], [(0, 0), (1, 0), (1, 1), (2, 1), (2, 2)])
        self.assertEqual(visits(chart, 2, FARTHEST), (0, FARTHEST))

    def test_one_by_one_from_every_place_of_the_smallest_lines(self):
        for line in small_lines()[::3]:
            chart, gone, pieces = Chart(line), [goes(line, x) for x in range(line.size)], pieces_of(line)
            for x in range(line.size):
                asked = all_visits(gone, pieces, x, 14)
                self.assertEqual([visits(chart, x, goings) for goings in range(15)], asked)

    def test_each_number_of_goings_on_drawn_lines(self):
        for chart, gone in walked_charts()[-200::4]:
            pieces = pieces_of(chart.line)
            size = chart.line.size
            for x in sorted({0, size // 3, size // 2, size - 1}):
                asked = all_visits(gone, pieces, x, 2 * size + 1)
                self.assertEqual([visits(chart, x, goings) for goings in range(2 * size + 2)], asked)

    def test_from_every_place_of_small_lines(self):
        for chart, gone in walked_charts():
            pieces = pieces_of(chart.line)
            for x in range(chart.line.size):
                for goings in (1, 5 + x % 7):
                    self.assertEqual(visits(chart, x, goings), counted_visits(gone, pieces, x, goings))

    def test_far_on_small_lines(self):
        for chart, gone in walked_charts()[::3]:
            pieces = pieces_of(chart.line)
            for x in {0, chart.line.size // 2, chart.line.size - 1}:
                length = round_length(chart, x)
                told = all_visits(gone, pieces, x, length)
                for goings in FAR[3:]:
                    asked = [goings // length * whole + more for whole, more in zip(told[length], told[goings % length])]
                    self.assertEqual(visits(chart, x, goings), tuple(asked))

    def test_one_piece(self):
        for turned in (False, True):
            for length in (1, 2, 7, GREATEST):
                chart = Chart(Line([length], [0], [turned]))
                for goings in FAR:
                    self.assertEqual(visits(chart, length // 2, goings), (goings,))
                    self.assertEqual(visits(chart, length - 1, goings), (goings,))

    def test_pieces_of_one_place(self):
        chart = Chart(Line([1, 1, 1, 1, 1], [4, 0, 3, 2, 1], [True, False, True, True, False]))
        # Places go 0, 1, 4, 0 and 2, 3, 2.
        self.assertEqual([visits(chart, x, 4) for x in range(5)],
                         [(2, 1, 0, 0, 1), (1, 2, 0, 0, 1), (0, 0, 2, 2, 0), (0, 0, 2, 2, 0), (1, 1, 0, 0, 2)])
        for x in range(5):
            self.assertEqual(visits(chart, x, 0), (0, 0, 0, 0, 0))


class GreatVisits(Timed):
    def test_behind_one_another(self):
        draw = Random(71)
        for chart in great_charts():
            for x in telling_places(chart, 5):
                for k in (0, 1, FARTHEST // 2, draw.randint(0, GREATEST), draw.randint(0, FARTHEST // 2)):
                    m = draw.choice((0, 1, FARTHEST // 2, draw.randint(0, GREATEST), draw.randint(0, FARTHEST // 2)))
                    first, then = visits(chart, x, k), visits(chart, after(chart, x, k), m)
                    self.assertEqual(visits(chart, x, k + m), summed(first, then))

    def test_one_more_going(self):
        draw = Random(72)
        for chart in great_charts():
            for x in telling_places(chart, 5):
                for k in (0, 1, 2, draw.randint(0, GREATEST), draw.randint(0, FARTHEST), FARTHEST - 1):
                    asked = list(visits(chart, x, k))
                    asked[piece_at(chart.line, after(chart, x, k))] += 1
                    self.assertEqual(visits(chart, x, k + 1), tuple(asked))

    def test_kinds_and_sums(self):
        draw = Random(73)
        for chart in great_charts():
            for x in telling_places(chart, 5):
                for k in (0, 1, draw.randint(0, GREATEST), draw.randint(0, FARTHEST), FARTHEST):
                    told = visits(chart, x, k)
                    self.assertIs(type(told), tuple)
                    self.assertEqual([type(count) for count in told], [int] * len(chart.line.lengths))
                    self.assertGreaterEqual(min(told), 0)
                    self.assertEqual(sum(told), k)

    def test_great_turns_of_two_pieces(self):
        # Each going leads on by the second piece's length, and falls back by the size just where it sets out from it.
        for one, two in TURNS_OF_TWO:
            chart = Chart(Line([one, two], [1, 0]))
            for x in (0, 1, one - 1, one, one // 3, one + two - 1):
                for goings in FAR:
                    back = (x + goings * two) // (one + two)
                    self.assertEqual(visits(chart, x, goings), (goings - back, back))

    def test_small_lines_drawn_out(self):
        draw = Random(74)
        for drawn in drawn_out():
            for x in drawn.places()[::2]:
                for goings in (0, 1, 2, FARTHEST, draw.randint(0, 50), draw.randint(0, FARTHEST)):
                    self.assertEqual(visits(drawn.chart, x, goings), drawn.visits(x, goings))


class Gathered(Timed):
    def test_told(self):
        chart = Chart(Line([6, 4], [1, 0]))
        self.assertEqual([gathered(chart, 0, goings, [5, -7]) for goings in range(6)], [0, 5, 10, 3, 8, 1])
        self.assertEqual(gathered(chart, 0, FARTHEST, (GREATEST, -GREATEST)), FARTHEST // 5 * GREATEST)
        self.assertEqual(gathered(chart, 3, FARTHEST, (0, 0)), 0)

    def test_one_by_one_on_small_lines(self):
        draw = Random(75)
        for chart, gone in walked_charts()[::4]:
            pieces = pieces_of(chart.line)
            for weights in some_weights(chart.line, draw):
                x = draw.randrange(chart.line.size)
                goings = draw.randint(0, 20)
                y, asked = x, 0
                for _ in range(goings):
                    asked += weights[pieces[y]]
                    y = gone[y]
                self.assertEqual(gathered(chart, x, goings, weights), asked)
                self.assertEqual(gathered(chart, x, goings, tuple(weights)), asked)

    def test_sums_of_weight_times_visits(self):
        draw = Random(76)
        for chart in great_charts():
            for x in telling_places(chart, 2):
                for goings in (1, FARTHEST, draw.randint(0, FARTHEST)):
                    told = visits(chart, x, goings)
                    weights = draw.choice(some_weights(chart.line, draw))
                    asked = sum(weight * count for weight, count in zip(weights, told))
                    self.assertEqual(gathered(chart, x, goings, weights), asked)
                    self.assertIs(type(gathered(chart, x, goings, tuple(weights))), int)
                    self.assertEqual(gathered(chart, x, goings, tuple([1] * len(told))), goings)
                    one = draw.randrange(len(told))
                    self.assertEqual(gathered(chart, x, goings, [int(p == one) for p in range(len(told))]), told[one])

    def test_weights_stay_as_they_were(self):
        draw = Random(77)
        for told in told_lines():
            chart = Chart(Line(*told))
            for weights in some_weights(chart.line, draw):
                kept = list(weights)
                one = gathered(chart, 0, 1000, weights)
                self.assertEqual(weights, kept)
                weights[0] += 1
                gathered(chart, 0, 1000, weights)
                self.assertEqual(gathered(chart, 0, 1000, kept), one)


class Led(Timed):
    def test_small_lines(self):
        for chart, _ in walked_charts():
            if True not in chart.line.turned:
                for x in range(chart.line.size):
                    for goings in (0, 1, 2, 3 + x, 100):
                        asked = after(chart, x, goings) - x
                        self.assertEqual(gathered(chart, x, goings, leads(chart.line)), asked)

    def test_great_lines(self):
        draw = Random(78)
        charts = unturned_great_charts()
        self.assertGreater(len(charts), 25)
        for chart in charts:
            for x in telling_places(chart, 6):
                for goings in (0, 1, FARTHEST, draw.randint(0, GREATEST), draw.randint(0, FARTHEST)):
                    asked = after(chart, x, goings) - x
                    self.assertEqual(gathered(chart, x, goings, leads(chart.line)), asked)


class BandVisits(Timed):
    def test_told(self):
        self.assertEqual(band_visits(Chart(Line([6, 4], [1, 0]))), [(3, 2)])
        self.assertEqual(band_visits(Chart(Line([2, 3], [1, 0], [False, True]))), [(0, 1), (1, 1)])
        self.assertEqual(band_visits(Chart(Line([3, 5, 2], [0, 1, 2]))), [(0, 0, 1), (0, 1, 0), (1, 0, 0)])
        self.assertEqual(band_visits(Chart(Line([1, GREATEST - 1], [1, 0]))), [(1, GREATEST - 1)])

    def test_from_each_place_of_each_floor(self):
        for chart, gone in walked_charts():
            pieces = pieces_of(chart.line)
            told = band_visits(chart)
            self.assertEqual(len(told), len(chart.bands))
            for band, (start, width, height, _) in enumerate(chart.bands):
                for x in range(start, start + width):
                    self.assertEqual(told[band], counted_visits(gone, pieces, x, height))

    def test_level_by_level(self):
        for chart, _ in walked_charts()[::5]:
            for start, width, height, _ in chart.bands:
                for goings in range(height + 1):
                    asked = visits(chart, start, goings)
                    for x in range(start + 1, start + width):
                        self.assertEqual(visits(chart, x, goings), asked)

    def test_sums_over_the_bands(self):
        for chart in great_charts() + [chart for chart, _ in walked_charts()]:
            told = band_visits(chart)
            self.assertIs(type(told), list)
            sums = [0] * len(chart.line.lengths)
            for counts, (start, width, height, _) in zip(told, chart.bands, strict=True):
                self.assertIs(type(counts), tuple)
                self.assertEqual([type(count) for count in counts], [int] * len(sums))
                self.assertEqual(sum(counts), height)
                sums = [whole + width * count for whole, count in zip(sums, counts, strict=True)]
            self.assertEqual(tuple(sums), chart.line.lengths)

    def test_visits_from_great_floors(self):
        for chart in great_charts():
            told = band_visits(chart)
            for counts, (start, width, height, _) in list(zip(told, chart.bands))[:6]:
                for x in {start, start + width // 2, start + width - 1}:
                    self.assertEqual(visits(chart, x, height), counts)

    def test_a_told_list_is_the_askers_own(self):
        for told in told_lines():
            chart = Chart(Line(*told))
            one = band_visits(chart)
            kept = list(one)
            one[0] = (7,)
            one.append((1,))
            self.assertEqual(band_visits(chart), kept)
            one.clear()
            self.assertEqual(band_visits(chart), kept)


class Asking(Timed):
    def test_places_that_are_not_on_the_line(self):
        for told in told_lines():
            chart = Chart(Line(*told))
            weights = [3] * len(told[0])
            for x in outside_places(chart.line):
                for goings in (0, 1, FARTHEST):
                    self.refused(Outside, visits, chart, x, goings)
                    self.refused(Outside, gathered, chart, x, goings, weights)
                    self.refused(Outside, gathered, chart, x, goings, tuple(weights))
            for x in (0, chart.line.size - 1):
                self.assertEqual(sum(visits(chart, x, 9)), 9)
                self.assertEqual(gathered(chart, x, 9, weights), 27)

    def test_by_the_names_of_the_arguments(self):
        chart = Chart(Line([6, 4], [1, 0]))
        self.assertEqual(visits(chart=chart, x=0, goings=3), (2, 1))
        self.assertEqual(gathered(chart=chart, x=0, goings=3, weights=(5, -7)), 3)
        self.assertEqual(band_visits(chart=chart), [(3, 2)])

    def test_the_same_again_and_nothing_changed(self):
        for told in told_lines():
            chart = Chart(Line(*told))
            kept = (chart.line, chart.rests, chart.steps, chart.towers, chart.bands)
            places = telling_places(chart, 9)
            weights = [p - 3 for p in range(len(told[0]))]
            asked = [[(visits(one, x, 10 ** 9), gathered(one, x, 10 ** 9, weights), band_visits(one)) for x in places]
                     for one in (chart, chart, Chart(chart.line))]
            self.assertEqual(asked[0], asked[1])
            self.assertEqual(asked[0], asked[2])
            self.assertEqual((chart.line, chart.rests, chart.steps, chart.towers, chart.bands), kept)


if __name__ == "__main__":
    unittest.main()
