import unittest

from relaid.charts import Chart
from relaid.lines import Line
from relaid.rests import Rest, rest_of
from relaid.steps import Home, Step, next_step
from samples import (GREATEST, Timed, all_told, drawn_told_lines, first_return, gone_by, great_told_lines, letters_of,
                     rest_fields, told_lines, walked_lines)


def step_facts(step, rest):
    return (type(step), step.word(), step.winner, step.times, step.losers(rest), step.own_first())


def chart_fields(chart):
    steps = tuple(step_facts(step, rest) for step, rest in zip(chart.steps, chart.rests))
    return (tuple(rest_fields(rest) for rest in chart.rests), steps, chart.towers, chart.bands)


class Told(Timed):
    def test_one_piece(self):
        for turned in (False, True):
            chart = Chart(Line([9], [0], [turned]))
            self.assertEqual([rest_fields(rest) for rest in chart.rests],
                             [((0,), (0,), (9,), (turned,), 9), ((), (), (0,), (False,), 0)])
            self.assertEqual([(step.word(), step.winner) for step in chart.steps], [("home", 0)])
            self.assertEqual(chart.towers, ((1,), (0,)))
            self.assertEqual(chart.bands, ((0, 9, 1, turned),))

    def test_two_pieces(self):
        chart = Chart(Line([6, 4], [1, 0]))
        self.assertEqual([(step.word(), step.winner, step.times) for step in chart.steps],
                         [("unders", 0, 1), ("overs", 1, 1), ("even", 1, 1), ("home", 0, 1)])
        self.assertEqual([rest.lengths for rest in chart.rests], [(6, 4), (2, 4), (2, 2), (2, 0), (0, 0)])
        self.assertEqual(chart.towers, ((1, 1), (1, 2), (3, 2), (5, 0), (0, 0)))
        self.assertEqual(chart.bands, ((0, 2, 5, False),))

    def test_turned_pieces(self):
        chart = Chart(Line([2, 3], [1, 0], [False, True]))
        self.assertEqual([(step.word(), step.winner, step.times) for step in chart.steps],
                         [("over", 1, 1), ("home", 1, 1), ("home", 0, 1)])
        self.assertEqual([rest_fields(rest)[:4] for rest in chart.rests],
                         [((0, 1), (1, 0), (2, 3), (False, True)), ((0, 1), (0, 1), (2, 1), (True, True)),
                          ((0,), (0,), (2, 0), (True, False)), ((), (), (0, 0), (False, False))])
        self.assertEqual(chart.towers, ((1, 1), (2, 1), (2, 0), (0, 0)))
        self.assertEqual(chart.bands, ((2, 1, 1, True), (0, 2, 2, True)))

    def test_a_line_that_stays(self):
        chart = Chart(Line([3, 5, 2], [0, 1, 2], [False, True, False]))
        self.assertEqual([(step.word(), step.winner) for step in chart.steps], [("home", 2), ("home", 1), ("home", 0)])
        self.assertEqual(chart.towers, ((1, 1, 1), (1, 1, 0), (1, 0, 0), (0, 0, 0)))
        self.assertEqual(chart.bands, ((8, 2, 1, False), (3, 5, 1, True), (0, 3, 1, False)))

    def test_great_times(self):
        chart = Chart(Line([1, GREATEST - 1], [1, 0]))
        self.assertEqual([(step.word(), step.winner, step.times) for step in chart.steps],
                         [("overs", 1, GREATEST - 2), ("even", 1, 1), ("home", 0, 1)])
        self.assertEqual(chart.towers, ((1, 1), (GREATEST - 1, 1), (GREATEST, 0), (0, 0)))
        self.assertEqual(chart.bands, ((0, 1, GREATEST, False),))

    def test_a_great_line_with_turns(self):
        chart = Chart(Line([10 ** 29, 3 * 10 ** 29], [1, 0], [True, True]))
        self.assertEqual(chart.bands, ((10 ** 29, 2 * 10 ** 29, 1, True), (0, 10 ** 29, 2, False)))


class Fields(Timed):
    def test_the_line(self):
        for told in all_told():
            line = Line(*told)
            kept = Chart(line).line
            self.assertIs(type(kept), Line)
            self.assertEqual((kept.lengths, kept.order, kept.turned), (line.lengths, line.order, line.turned))

    def test_kinds(self):
        for told in all_told():
            chart = Chart(Line(*told))
            for row in (chart.rests, chart.steps, chart.towers, chart.bands):
                self.assertIs(type(row), tuple)
            self.assertEqual({type(rest) for rest in chart.rests}, {Rest})
            self.assertTrue(all(isinstance(step, Step) for step in chart.steps))
            for towers in chart.towers:
                self.assertIs(type(towers), tuple)
                self.assertEqual([type(tower) for tower in towers], [int] * len(told[0]))
            for band in chart.bands:
                self.assertIs(type(band), tuple)
                self.assertEqual([type(one) for one in band], [int, int, int, bool])

    def test_no_method_but_the_making(self):
        chart = Chart(Line([2, 3], [1, 0]))
        held = [name for name in dir(chart) if not name.startswith("__")]
        self.assertEqual([name for name in held if callable(getattr(chart, name))], [])

    def test_by_the_name_of_the_argument(self):
        self.assertEqual(Chart(line=Line([9], [0])).bands, ((0, 9, 1, False),))

    def test_the_same_again_and_nothing_changed(self):
        for told in told_lines() + drawn_told_lines(7, 12, 30):
            line = Line(*told)
            one = Chart(line)
            ahead = chart_fields(one)
            self.assertEqual(chart_fields(Chart(line)), ahead)
            Chart(Line([4, 4, 5], [2, 1, 0]))
            self.assertEqual(chart_fields(one), ahead)
            self.assertEqual((line.lengths, line.order, line.turned), tuple(tuple(row) for row in told))


class StepByStep(Timed):
    def test_rests_and_steps_fit_together(self):
        for told in all_told():
            line = Line(*told)
            chart = Chart(line)
            self.assertEqual(len(chart.rests), len(chart.steps) + 1)
            self.assertEqual(rest_fields(chart.rests[0]), rest_fields(rest_of(line)))
            for at, step in enumerate(chart.steps):
                rest = chart.rests[at]
                self.assertEqual(step_facts(step, rest), step_facts(next_step(rest), rest))
                self.assertEqual(rest_fields(chart.rests[at + 1]), rest_fields(step.behind(rest)))
                self.assertGreater(len(rest.top), 0)
            pieces = len(line.lengths)
            self.assertEqual(rest_fields(chart.rests[-1]), ((), (), (0,) * pieces, (False,) * pieces, 0))

    def test_towers(self):
        for told in all_told():
            chart = Chart(Line(*told))
            towers = [1] * len(told[0])
            self.assertEqual(len(chart.towers), len(chart.rests))
            for at, step in enumerate(chart.steps):
                self.assertEqual(chart.towers[at], tuple(towers))
                for loser in step.losers(chart.rests[at]):
                    towers[loser] += step.times * towers[step.winner]
                if step.word() in ("home", "even"):
                    towers[step.winner] = 0
            self.assertEqual(towers, [0] * len(told[0]))
            self.assertEqual(chart.towers[-1], tuple(towers))

    def test_bands(self):
        for told in all_told():
            chart = Chart(Line(*told))
            bands = []
            for at, step in enumerate(chart.steps):
                if isinstance(step, Home):
                    rest = chart.rests[at]
                    bands.append((rest.size - rest.lengths[step.winner], rest.lengths[step.winner],
                                  chart.towers[at][step.winner], rest.turned[step.winner]))
            self.assertEqual(chart.bands, tuple(bands))
            self.assertGreater(len(bands), 0)

    def test_sums(self):
        for told in all_told():
            chart = Chart(Line(*told))
            size = sum(told[0])
            self.assertEqual(sum(width * height for _, width, height, _ in chart.bands), size)
            left = 0
            homes = 0
            for at, rest in enumerate(chart.rests):
                stay = sum(rest.lengths[letter] * chart.towers[at][letter] for letter in rest.top)
                self.assertEqual(stay + left, size)
                if at < len(chart.steps) and isinstance(chart.steps[at], Home):
                    _, width, height, _ = chart.bands[homes]
                    left += width * height
                    homes += 1
            self.assertEqual(homes, len(chart.bands))


class PlaceByPlace(Timed):
    def test_towers_as_counted_by_going(self):
        for line in walked_lines():
            chart = Chart(line)
            gone = gone_by(line)
            for rest, towers in zip(chart.rests, chart.towers):
                for x, letter in enumerate(letters_of(rest.top, rest.lengths)):
                    self.assertEqual(len(first_return(gone, x, rest.size)) - 1, towers[letter])
                gone_letters = [letter for letter in range(len(towers)) if letter not in rest.top]
                self.assertEqual([towers[letter] for letter in gone_letters], [0] * len(gone_letters))

    def test_bands_as_counted_by_going(self):
        for line in walked_lines():
            gone = gone_by(line)
            come_through = []
            for start, width, height, turned in Chart(line).bands:
                for offset in range(width):
                    way = [start + offset]
                    while len(way) == 1 or not start <= way[-1] < start + width:
                        way.append(gone[way[-1]])
                    self.assertEqual(len(way) - 1, height)
                    self.assertEqual(way[-1], start + (width - 1 - offset if turned else offset))
                    come_through.extend(way[:-1])
            self.assertEqual(sorted(come_through), list(range(line.size)))

    def test_bands_lie_side_by_side_from_the_last_one_on(self):
        for line in walked_lines():
            chart = Chart(line)
            sizes = [chart.rests[at + 1].size for at, step in enumerate(chart.steps) if step.word() == "home"]
            self.assertEqual([start for start, _, _, _ in chart.bands], sizes)
            self.assertEqual(sizes, sorted(sizes, reverse=True))


class Quickly(Timed):
    def test_great_lines(self):
        for told in great_told_lines():
            self.assertEqual(Chart(Line(*told)).rests[-1].size, 0)


if __name__ == "__main__":
    unittest.main()
