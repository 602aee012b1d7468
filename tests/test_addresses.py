import unittest
from random import Random

from relaid.addresses import address, place
from relaid.charts import Chart
from relaid.errors import BadAddress, Outside
from relaid.going import comes, goes
from relaid.lines import Line
from samples import GREATEST, Timed, great_charts, outside_places, telling_places, told_lines, walked_charts


def walked_addresses(chart, gone):
    """Each address with its place, as found by going from the places of each band."""
    told = []
    for band, (start, width, height, _) in enumerate(chart.bands):
        for offset in range(width):
            x = start + offset
            for level in range(height):
                told.append(((band, offset, level), x))
                x = gone[x]
    return told


def telling_addresses(chart):
    """Addresses at and beside the ends of each band, and some others."""
    draw = Random(chart.line.size)
    told = []
    for band, (_, width, height, _) in enumerate(chart.bands):
        offsets = {0, width // 2, width - 1, draw.randrange(width)}
        levels = {0, min(1, height - 1), height // 2, height - 1, draw.randrange(height)}
        told += [(band, offset, level) for offset in sorted(offsets) for level in sorted(levels)]
    return told


def next_address(chart, told):
    """The address behind one going, by the words of 5.2."""
    band, offset, level = told
    _, width, height, turned = chart.bands[band]
    if level + 1 < height:
        return (band, offset, level + 1)
    return (band, width - 1 - offset if turned else offset, 0)


class Told(Timed):
    def test_two_pieces(self):
        chart = Chart(Line([6, 4], [1, 0]))
        told = [address(chart, x) for x in range(10)]
        self.assertEqual(told, [(0, 0, 0), (0, 1, 0), (0, 0, 3), (0, 1, 3), (0, 0, 1), (0, 1, 1), (0, 0, 4), (0, 1, 4),
                                (0, 0, 2), (0, 1, 2)])
        self.assertEqual([place(chart, one) for one in told], list(range(10)))

    def test_turned_pieces(self):
        chart = Chart(Line([2, 3], [1, 0], [False, True]))
        told = [address(chart, x) for x in range(5)]
        self.assertEqual(told, [(1, 0, 0), (1, 1, 0), (0, 0, 0), (1, 0, 1), (1, 1, 1)])
        self.assertEqual([place(chart, one) for one in told], list(range(5)))

    def test_one_piece(self):
        for turned in (False, True):
            chart = Chart(Line([GREATEST], [0], [turned]))
            for x in (0, 1, GREATEST // 2, GREATEST - 1):
                self.assertEqual(address(chart, x), (0, x, 0))
                self.assertEqual(place(chart, (0, x, 0)), x)

    def test_a_great_turn(self):
        # Each going leads three places back, and three doesn't divide the size: so one round has all places.
        size = 3 * 10 ** 29 + 1
        chart = Chart(Line([3, size - 3], [1, 0]))
        self.assertEqual(chart.bands, ((0, 1, size, False),))
        for level in (0, 1, 2, 10 ** 29, 10 ** 29 + 1, 2 * 10 ** 29, size - 1):
            self.assertEqual(place(chart, (0, 0, level)), -3 * level % size)
            self.assertEqual(address(chart, -3 * level % size), (0, 0, level))


class PlaceByPlace(Timed):
    def test_the_address_of_each_place(self):
        for chart, gone in walked_charts():
            for told, x in walked_addresses(chart, gone):
                self.assertEqual(address(chart, x), told)

    def test_the_place_of_each_address(self):
        for chart, gone in walked_charts():
            for told, x in walked_addresses(chart, gone):
                self.assertEqual(place(chart, told), x)

    def test_each_address_once(self):
        for chart, _ in walked_charts():
            told = [address(chart, x) for x in range(chart.line.size)]
            asked = [(band, offset, level) for band, (_, width, height, _) in enumerate(chart.bands)
                     for offset in range(width) for level in range(height)]
            self.assertEqual(sorted(told), asked)

    def test_behind_one_going(self):
        for chart, gone in walked_charts():
            for x, y in enumerate(gone):
                self.assertEqual(address(chart, y), next_address(chart, address(chart, x)))


class GreatLines(Timed):
    def test_from_a_place_and_back(self):
        for chart in great_charts():
            for x in telling_places(chart):
                told = address(chart, x)
                _, width, height, _ = chart.bands[told[0]]
                self.assertTrue(0 <= told[1] < width and 0 <= told[2] < height)
                self.assertEqual(place(chart, told), x)

    def test_from_an_address_and_back(self):
        for chart in great_charts():
            for told in telling_addresses(chart):
                x = place(chart, told)
                self.assertTrue(0 <= x < chart.line.size)
                self.assertEqual(address(chart, x), told)

    def test_the_floor_of_a_band(self):
        for chart in great_charts():
            for band, (start, width, _, _) in enumerate(chart.bands):
                for offset in {0, width // 2, width - 1}:
                    self.assertEqual(address(chart, start + offset), (band, offset, 0))
                    self.assertEqual(place(chart, (band, offset, 0)), start + offset)

    def test_behind_one_going(self):
        turned_about = 0
        for chart in great_charts():
            for told in telling_addresses(chart):
                x, behind = place(chart, told), next_address(chart, told)
                self.assertEqual(address(chart, goes(chart.line, x)), behind)
                self.assertEqual(comes(chart.line, place(chart, behind)), x)
                turned_about += behind[1] != told[1]
        self.assertGreater(turned_about, 50)


class Refusals(Timed):
    def test_numbers_that_are_no_place(self):
        for told in told_lines():
            chart = Chart(Line(*told))
            for x in outside_places(chart.line):
                self.refused(Outside, address, chart, x)
            for x in (0, chart.line.size - 1):
                self.assertEqual(place(chart, address(chart, x)), x)

    def test_addresses_that_are_not_there(self):
        charts = great_charts() + [Chart(Line(*told)) for told in told_lines()]
        for chart in charts:
            bands = len(chart.bands)
            for band in (-1, -2, -bands, -bands - 1, bands, bands + 1, -GREATEST, GREATEST):
                self.refused(BadAddress, place, chart, (band, 0, 0))
            for band, (_, width, height, _) in enumerate(chart.bands):
                for offset in (-1, -width, width, width + 1, -GREATEST, width + GREATEST):
                    self.refused(BadAddress, place, chart, (band, offset, 0))
                    self.refused(BadAddress, place, chart, (band, offset, height - 1))
                for level in (-1, -height, height, height + 1, 2 * height, -GREATEST, height + GREATEST):
                    self.refused(BadAddress, place, chart, (band, 0, level))
                    self.refused(BadAddress, place, chart, (band, width - 1, level))
                self.refused(BadAddress, place, chart, (band, -1, -1))
                self.refused(BadAddress, place, chart, (band, width, height))
                self.refused(BadAddress, place, chart, (-1, width - 1, height - 1))
                self.assertEqual(address(chart, place(chart, (band, width - 1, height - 1))),
                                 (band, width - 1, height - 1))


class Asking(Timed):
    def test_kinds(self):
        for told in told_lines():
            chart = Chart(Line(*told))
            one = address(chart, chart.line.size // 2)
            self.assertIs(type(one), tuple)
            self.assertEqual([type(part) for part in one], [int, int, int])
            self.assertIs(type(place(chart, one)), int)

    def test_by_the_names_of_the_arguments(self):
        chart = Chart(Line([6, 4], [1, 0]))
        self.assertEqual(address(chart=chart, x=7), (0, 1, 4))
        self.assertEqual(place(chart=chart, told=(0, 1, 4)), 7)

    def test_the_same_again_and_nothing_changed(self):
        for told in told_lines():
            chart = Chart(Line(*told))
            kept = (chart.rests, chart.steps, chart.towers, chart.bands)
            places = telling_places(chart)
            one = [address(chart, x) for x in places]
            self.assertEqual([address(chart, x) for x in places[::-1]], one[::-1])
            self.assertEqual([place(chart, at) for at in one[::-1]], places[::-1])
            self.assertEqual([address(Chart(chart.line), x) for x in places], one)
            self.assertEqual((chart.rests, chart.steps, chart.towers, chart.bands), kept)


if __name__ == "__main__":
    unittest.main()
