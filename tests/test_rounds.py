import unittest
from random import Random

from relaid.addresses import address
from relaid.charts import Chart
from relaid.errors import Outside
from relaid.going import comes, goes
from relaid.lines import Line
from relaid.rounds import after, between, round_length, rounds
from samples import (FARTHEST, GREATEST, Timed, all_rounds, counted, drawn_out, gone_by, great_charts, laid_out,
                     outside_places, round_of, small_lines, telling_places, told_lines, walked_charts)

FAR = (0, 1, 2, 3, 10 ** 28, 10 ** 30 - 1, 7 ** 50, FARTHEST - 1, FARTHEST)


class After(Timed):
    def test_told(self):
        chart = Chart(Line([6, 4], [1, 0]))
        self.assertEqual([after(chart, 0, goings) for goings in range(-6, 7)],
                         [6, 0, 4, 8, 2, 6, 0, 4, 8, 2, 6, 0, 4])
        chart = Chart(Line([2, 3], [1, 0], [False, True]))
        self.assertEqual([after(chart, 0, goings) for goings in range(-5, 6)], [4, 0, 3, 1, 4, 0, 3, 1, 4, 0, 3])
        self.assertEqual([after(chart, 2, goings) for goings in (-FARTHEST, -1, 0, 1, FARTHEST)], [2] * 5)

    def test_one_by_one_on_small_lines(self):
        for chart, gone in walked_charts():
            for x in range(chart.line.size):
                way = round_of(gone, x)
                for goings in range(-2 * len(way) - 1, 2 * len(way) + 2, 1 if len(way) < 9 else len(way) // 4):
                    self.assertEqual(after(chart, x, goings), way[goings % len(way)])

    def test_small_numbers_on_the_smallest_lines(self):
        for line in small_lines()[::5]:
            chart = Chart(line)
            gone = gone_by(line)
            back = laid_out(line.lengths, line.order, line.turned)
            for x in range(line.size):
                on_way, back_way = x, x
                for goings in range(12):
                    self.assertEqual((after(chart, x, goings), after(chart, x, -goings)), (on_way, back_way))
                    on_way, back_way = gone[on_way], back[back_way]

    def test_far_on_and_back_on_small_lines(self):
        for chart, gone in walked_charts()[::3]:
            for x in {0, chart.line.size // 2, chart.line.size - 1}:
                way = round_of(gone, x)
                for goings in FAR:
                    self.assertEqual(after(chart, x, goings), way[goings % len(way)])
                    self.assertEqual(after(chart, x, -goings), way[-goings % len(way)])

    def test_no_going_and_one_on_great_lines(self):
        for chart in great_charts():
            for x in telling_places(chart, 25):
                self.assertEqual(after(chart, x, 0), x)
                self.assertEqual(after(chart, x, 1), goes(chart.line, x))
                self.assertEqual(after(chart, x, -1), comes(chart.line, x))

    def test_goings_behind_one_another_on_great_lines(self):
        draw = Random(61)
        for chart in great_charts():
            for x in telling_places(chart, 6):
                for one in (FARTHEST, -FARTHEST, draw.randint(-FARTHEST, FARTHEST)):
                    y = after(chart, x, one)
                    self.assertEqual(after(chart, y, -one), x)
                    two = draw.randint(-FARTHEST, FARTHEST)
                    if abs(one + two) > FARTHEST:
                        two = -two
                    self.assertEqual(after(chart, y, two), after(chart, x, one + two))
                    inwards = 1 if one < 0 else -1
                    self.assertEqual(after(chart, y, inwards), after(chart, x, one + inwards))

    def test_great_turns_of_two_pieces(self):
        for one, two in ((6 * 10 ** 29, 4 * 10 ** 29), (10 ** 29 + 7, 3 * 10 ** 29), (1, GREATEST - 1),
                         (GREATEST - 2, 1), (5 ** 40, 2 ** 90), (3 ** 60, 3 ** 55)):
            chart = Chart(Line([one, two], [1, 0]))
            size = one + two
            for x in (0, 1, one - 1, one, one // 3, size - 1):
                for goings in FAR:
                    self.assertEqual(after(chart, x, goings), (x + goings * two) % size)
                    self.assertEqual(after(chart, x, -goings), (x - goings * two) % size)

    def test_small_lines_drawn_out(self):
        draw = Random(62)
        for drawn in drawn_out():
            for x in drawn.places():
                for goings in (0, 1, -1, 2, -3, FARTHEST, -FARTHEST, draw.randint(-FARTHEST, FARTHEST)):
                    self.assertEqual(after(drawn.chart, x, goings), drawn.after(x, goings))

    def test_places_that_are_not_on_the_line(self):
        for told in told_lines():
            chart = Chart(Line(*told))
            for x in outside_places(chart.line):
                for goings in (0, 1, -1, FARTHEST, -FARTHEST):
                    self.refused(Outside, after, chart, x, goings)


class Rounds(Timed):
    def test_told(self):
        for told, asked in ((([6, 4], [1, 0]), [(5, 2)]),
                            (([3, 5, 2], [0, 1, 2]), [(1, 10)]),
                            (([1], [0], [True]), [(1, 1)]),
                            (([7], [0], [True]), [(1, 1), (2, 3)]),
                            (([8], [0], [True]), [(2, 4)]),
                            (([2, 3], [1, 0], [False, True]), [(1, 1), (4, 1)]),
                            (([GREATEST], [0], [True]), [(2, GREATEST // 2)]),
                            (([GREATEST - 1], [0], [True]), [(1, 1), (2, GREATEST // 2 - 1)]),
                            (([1, GREATEST - 1], [1, 0]), [(GREATEST, 1)])):
            self.assertEqual(rounds(Chart(Line(*told))), asked)

    def test_as_walked_from_every_place(self):
        for chart, gone in walked_charts():
            for way in all_rounds(gone):
                for x in way:
                    self.assertEqual(round_length(chart, x), len(way))
            self.assertEqual(rounds(chart), counted([len(way) for way in all_rounds(gone)]))

    def test_turned_bands_of_each_width(self):
        seen = set()
        for chart, _ in walked_charts():
            for start, width, height, turned in chart.bands:
                for offset in range(width):
                    middle = turned and offset == width - 1 - offset
                    asked = 2 * height if turned and not middle else height
                    self.assertEqual(round_length(chart, start + offset), asked)
                seen.add((turned, min(width, 4), height > 1))
        for turned in (False, True):
            for width in (1, 2, 3, 4):
                for high in (False, True):
                    self.assertIn((turned, width, high), seen)

    def test_great_lines(self):
        for chart in great_charts():
            told = rounds(chart)
            lengths = [length for length, _ in told]
            self.assertEqual(lengths, sorted(set(lengths)))
            self.assertGreater(min(number for _, number in told), 0)
            self.assertEqual(sum(length * number for length, number in told), chart.line.size)
            for x in telling_places(chart, 25):
                length = round_length(chart, x)
                self.assertIn(length, lengths)
                self.assertEqual(after(chart, x, length), x)
                band, offset, _ = address(chart, x)
                _, width, height, turned = chart.bands[band]
                middle = 2 * offset == width - 1
                self.assertEqual(length, 2 * height if turned and not middle else height)

    def test_small_lines_drawn_out(self):
        for drawn in drawn_out():
            self.assertEqual(rounds(drawn.chart), drawn.rounds())
            for x in drawn.places():
                self.assertEqual(round_length(drawn.chart, x), drawn.round_length(x))

    def test_kinds(self):
        for told in told_lines():
            chart = Chart(Line(*told))
            self.assertIs(type(rounds(chart)), list)
            for pair in rounds(chart):
                self.assertIs(type(pair), tuple)
                self.assertEqual([type(part) for part in pair], [int, int])
            self.assertIs(type(round_length(chart, 0)), int)

    def test_a_told_list_is_the_askers_own(self):
        for told in told_lines():
            chart = Chart(Line(*told))
            one = rounds(chart)
            kept = list(one)
            one[0] = (5, 5)
            one.append((1, 1))
            self.assertEqual(rounds(chart), kept)
            one.clear()
            self.assertEqual(rounds(chart), kept)

    def test_places_that_are_not_on_the_line(self):
        for told in told_lines():
            chart = Chart(Line(*told))
            for x in outside_places(chart.line):
                self.refused(Outside, round_length, chart, x)


class Between(Timed):
    def test_told(self):
        chart = Chart(Line([6, 4], [1, 0]))
        self.assertEqual([between(chart, 0, y) for y in range(10)], [0, None, 3, None, 1, None, 4, None, 2, None])
        chart = Chart(Line([2, 3], [1, 0], [False, True]))
        self.assertEqual([between(chart, 0, y) for y in range(5)], [0, 2, None, 1, 3])
        self.assertEqual([between(chart, 4, y) for y in range(5)], [1, 3, None, 2, 0])
        self.assertEqual([between(chart, 2, y) for y in range(5)], [None, None, 0, None, None])

    def test_as_walked(self):
        for chart, gone in walked_charts():
            size = chart.line.size
            for x in range(0, size, 1 if size < 30 else size // 10):
                way = round_of(gone, x)
                for y in range(size):
                    self.assertEqual(between(chart, x, y), way.index(y) if y in way else None)

    def test_great_lines(self):
        draw = Random(63)
        for chart in great_charts():
            for x in telling_places(chart, 8):
                self.assertEqual(between(chart, x, x), 0)
                length = round_length(chart, x)
                for goings in (1, -1, FARTHEST, draw.randint(-FARTHEST, FARTHEST)):
                    y = after(chart, x, goings)
                    self.assertEqual(between(chart, x, y), goings % length)
                    self.assertEqual(after(chart, x, between(chart, x, y)), y)

    def test_any_two_places_of_great_lines(self):
        found = {True: 0, False: 0}
        for chart in great_charts():
            places = telling_places(chart, 8)
            for x in places:
                for y in places:
                    way = between(chart, x, y)
                    found[way is None] += 1
                    if way is not None:
                        self.assertTrue(0 <= way < round_length(chart, x))
                        self.assertEqual(after(chart, x, way), y)
                    self.assertEqual(between(chart, y, x) is None, way is None)
        self.assertGreater(min(found.values()), 100)

    def test_two_places_that_are_not_in_one_round(self):
        chart = Chart(Line([GREATEST], [0], [True]))
        for x in (0, 5, GREATEST - 1):
            for y in (0, 1, 5, 6, GREATEST - 1, GREATEST - 2, GREATEST - 6):
                asked = 0 if x == y else 1 if x + y == GREATEST - 1 else None
                self.assertEqual(between(chart, x, y), asked)
        chart = Chart(Line([6 * 10 ** 29, 4 * 10 ** 29], [1, 0]))
        self.assertEqual(between(chart, 0, 4 * 10 ** 29), 1)
        for y in (1, 10 ** 29, 2 * 10 ** 29 - 1, GREATEST - 1):
            self.assertIsNone(between(chart, 0, y))

    def test_great_turns_of_two_pieces(self):
        for one, two in ((10 ** 29 + 7, 3 * 10 ** 29), (1, GREATEST - 1), (GREATEST - 2, 1), (5 ** 40, 2 ** 90)):
            chart = Chart(Line([one, two], [1, 0]))
            size = one + two
            for x in (0, 1, one - 1, one, size - 1):
                for y in (0, 2, one, one // 3, size - 1):
                    self.assertEqual(between(chart, x, y), (y - x) * pow(two, -1, size) % size)

    def test_small_lines_drawn_out(self):
        for drawn in drawn_out()[::3]:
            places = drawn.places()
            for x in places[::4]:
                way = [x]
                while len(way) < drawn.round_length(x):
                    way.append(drawn.after(x, len(way)))
                for y in places:
                    self.assertEqual(between(drawn.chart, x, y), way.index(y) if y in way else None)

    def test_places_that_are_not_on_the_line(self):
        for told in told_lines():
            chart = Chart(Line(*told))
            for x in outside_places(chart.line):
                self.refused(Outside, between, chart, x, x)
                self.refused(Outside, between, chart, x, 0)
                self.refused(Outside, between, chart, 0, x)
                self.refused(Outside, between, chart, x, chart.line.size - 1)
                self.refused(Outside, between, chart, chart.line.size - 1, x)
                self.refused(Outside, between, chart, x, -1)
                self.refused(Outside, between, chart, x, chart.line.size)


class Asking(Timed):
    def test_kinds(self):
        for told in told_lines():
            chart = Chart(Line(*told))
            y = after(chart, 0, FARTHEST)
            self.assertIs(type(y), int)
            self.assertIs(type(between(chart, 0, y)), int)

    def test_by_the_names_of_the_arguments(self):
        chart = Chart(Line([6, 4], [1, 0]))
        self.assertEqual(after(chart=chart, x=3, goings=2), 1)
        self.assertEqual(round_length(chart=chart, x=3), 5)
        self.assertEqual(rounds(chart=chart), [(5, 2)])
        self.assertEqual(between(chart=chart, x=3, y=1), 2)

    def test_the_same_again_and_nothing_changed(self):
        for told in told_lines():
            chart = Chart(Line(*told))
            kept = (chart.rests, chart.steps, chart.towers, chart.bands)
            places = telling_places(chart, 9)
            asked = [[(after(one, x, 10 ** 9), round_length(one, x), between(one, x, places[0]), rounds(one))
                      for x in places] for one in (chart, chart, Chart(chart.line))]
            self.assertEqual(asked[0], asked[1])
            self.assertEqual(asked[0], asked[2])
            self.assertEqual((chart.rests, chart.steps, chart.towers, chart.bands), kept)


if __name__ == "__main__":
    unittest.main()
