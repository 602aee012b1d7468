import unittest
from random import Random

from arch_samples import great_told, led, small_told, telling_dots, walked_ends, walked_strands
from relaid.arches import Arches, arch_above, arch_below
from relaid.charts import Chart
from relaid.errors import BadArches, Outside
from relaid.going import goes
from relaid.lines import Line
from samples import GREATEST, Timed, gone_by, line_fields, plain_told, rest_fields, round_of


class Ends(Timed):
    def test_told(self):
        arches = Arches([5, 1, 2, 4], [12])
        self.assertEqual([arch_above(arches, x) for x in range(12)], [4, 3, None, 1, 0, None, 7, 6, 11, 10, 9, 8])
        self.assertEqual([arch_below(arches, x) for x in range(12)], [11, 10, 9, 8, 7, 6, 5, 4, 3, 2, 1, 0])
        arches = Arches((1,), (1,))
        self.assertEqual((arch_above(arches, 0), arch_below(arches, 0)), (None, None))
        arches = Arches((2,), (1, 1))
        self.assertEqual([arch_above(arches, x) for x in range(2)], [1, 0])
        self.assertEqual([arch_below(arches, x) for x in range(2)], [None, None])

    def test_dot_by_dot(self):
        for above, below in small_told():
            arches = Arches(above, below)
            self.assertEqual([arch_above(arches, x) for x in range(arches.size)], walked_ends(above))
            self.assertEqual([arch_below(arches, x) for x in range(arches.size)], walked_ends(below))

    def test_each_number_of_blocks(self):
        for blocks in range(1, 13):
            for length in range(1, 6):
                row = [length] * blocks
                arches = Arches(row, [blocks * length])
                self.assertEqual([arch_above(arches, x) for x in range(arches.size)], walked_ends(row))
                arches = Arches([blocks * length], row)
                self.assertEqual([arch_below(arches, x) for x in range(arches.size)], walked_ends(row))

    def test_great_lengths(self):
        middles = 0
        for above, below in great_told():
            arches = Arches(above, below)
            for lengths, arch in ((above, arch_above), (below, arch_below)):
                for x, end in telling_dots(lengths):
                    self.assertEqual(arch(arches, x), end)
                    middles += end is None
                    if end is not None:
                        self.assertEqual(arch(arches, end), x)
        self.assertGreater(middles, 50)

    def test_the_other_end_leads_back(self):
        draw = Random(98)
        for above, below in small_told() + great_told():
            arches = Arches(above, below)
            for x in {0, arches.size // 2, arches.size - 1, draw.randrange(arches.size)}:
                for arch in (arch_above, arch_below):
                    end = arch(arches, x)
                    if end is not None:
                        self.assertIs(type(end), int)
                        self.assertNotEqual(end, x)
                        self.assertEqual(arch(arches, end), x)

    def test_numbers_that_are_no_dot(self):
        for above, below in small_told()[::40] + great_told():
            arches = Arches(above, below)
            size = arches.size
            for arch in (arch_above, arch_below):
                for x in (-1, -2, -size, -size - 1, -GREATEST, -10 ** 60, size, size + 1, 2 * size, size + GREATEST,
                          10 ** 60):
                    self.refused(Outside, arch, arches, x)
                arch(arches, 0)
                arch(arches, size - 1)


class Refusals(Timed):
    def refused_both_ways(self, one, two):
        for kind in (list, tuple):
            self.refused(BadArches, Arches, kind(one), kind(two))
            self.refused(BadArches, Arches, kind(two), kind(one))

    def test_no_block(self):
        self.refused_both_ways([], [])
        self.refused_both_ways([], [1])
        self.refused_both_ways([], [3, 4])

    def test_too_many_blocks(self):
        self.refused_both_ways([1] * 13, [13])
        self.refused_both_ways([1] * 13, [1] * 13)
        self.refused_both_ways([2] * 13, [2] * 12 + [2])
        self.refused_both_ways([1] * 24, [24])
        self.refused_both_ways([1] * 1000, [1000])
        self.refused_both_ways([1] * 12 + [GREATEST - 12], [GREATEST])

    def test_lengths_below_one(self):
        for wrong in (0, -1, -GREATEST, -10 ** 60):
            self.refused_both_ways([wrong], [wrong])
            self.refused_both_ways([wrong], [1])
            self.refused_both_ways([5, wrong, 3], [8 + wrong])
            self.refused_both_ways([wrong, 8 - wrong], [8])
            self.refused_both_ways([8 - wrong, wrong], [4, 4])
            self.refused_both_ways([wrong, 3 - wrong], [wrong, 3 - wrong])

    def test_sums_that_differ(self):
        self.refused_both_ways([1], [2])
        self.refused_both_ways([5, 5], [9])
        self.refused_both_ways([5, 5], [5, 6])
        self.refused_both_ways([GREATEST], [GREATEST - 1])
        self.refused_both_ways([GREATEST], [GREATEST + 1])
        self.refused_both_ways([1] * 12, [13])

    def test_too_many_dots(self):
        self.refused_both_ways([GREATEST + 1], [GREATEST + 1])
        self.refused_both_ways([GREATEST, 1], [1, GREATEST])
        self.refused_both_ways([GREATEST - 10] + [1] * 11, [GREATEST + 1])
        self.refused_both_ways([10 ** 60], [10 ** 60])

    def test_the_most_that_is_not_refused(self):
        ones = [1] * 12
        great = [GREATEST - 11] + [1] * 11
        for above, below in ((ones, ones), (ones, [12]), (great, great), (great, great[::-1]), (great, [GREATEST]),
                             ([GREATEST], [GREATEST])):
            for kind in (list, tuple):
                for told in ((above, below), (below, above)):
                    arches = Arches(kind(told[0]), kind(told[1]))
                    self.assertEqual((arches.above, arches.below), (tuple(told[0]), tuple(told[1])))
                    self.assertEqual(arches.size, sum(above))


class Fields(Timed):
    def test_told(self):
        arches = Arches([5, 1], [2, 4])
        self.assertEqual((arches.above, arches.below, arches.size), ((5, 1), (2, 4), 6))
        # Above 4 3 2 1 0 5, below 1 0 5 4 3 2.
        self.assertEqual(gone_by(arches.line), [3, 4, 5, 0, 1, 2])
        self.assertEqual(line_fields(arches.line), ((3, 3), (1, 0), (False, False)))
        self.assertEqual(arches.chart.bands, ((0, 3, 2, False),))

    def test_the_line_dot_by_dot(self):
        for above, below in small_told():
            arches = Arches(above, below)
            self.assertIs(type(arches.line), Line)
            up, down = led(walked_ends(above)), led(walked_ends(below))
            gone = [down[up[x]] for x in range(sum(above))]
            self.assertEqual(gone_by(arches.line), gone)
            self.assertEqual(line_fields(arches.line), plain_told(gone))
            self.assertLessEqual(len(arches.line.lengths), 23)

    def test_the_line_of_great_arches(self):
        for above, below in great_told():
            arches = Arches(above, below)
            line = arches.line
            dots = [x for x, _ in telling_dots(above) + telling_dots(below)]
            dots += [arch_above(arches, x) for x in dots if arch_above(arches, x) is not None]
            dots += list(line.starts) + [start - 1 for start in line.starts[1:]]
            for x in dots:
                up = arch_above(arches, x)
                up = x if up is None else up
                down = arch_below(arches, up)
                self.assertEqual(goes(line, x), up if down is None else down)
            self.assertLessEqual(len(line.lengths), 23)
            for piece, start in enumerate(line.starts):
                self.assertFalse(start > 0 and abs(goes(line, start) - goes(line, start - 1)) == 1)
                self.assertFalse(line.lengths[piece] == 1 and line.turned[piece])

    def test_rounds_of_ways_and_loops(self):
        found = {True: 0, False: 0}
        for above, below in small_told():
            gone = gone_by(Arches(above, below).line)
            up, down = walked_ends(above), walked_ends(below)
            for strand in walked_strands(up, down):
                ways = [round_of(gone, x) for x in strand]
                loop = not any(up[x] is None or down[x] is None for x in strand)
                self.assertEqual({len(way) for way in ways}, {len(strand) // 2 if loop else len(strand)})
                self.assertEqual(sorted({x for way in ways for x in way}), strand)
                found[loop] += 1
        self.assertGreater(min(found.values()), 500)

    def test_as_many_pieces_as_there_can_be(self):
        found = [len(Arches(above, below).line.lengths) for above, below in great_told() + small_told()]
        self.assertEqual(max(found), 23)

    def test_the_chart(self):
        for above, below in small_told()[::20] + great_told():
            arches = Arches(above, below)
            self.assertIs(type(arches.chart), Chart)
            asked = Chart(arches.line)
            self.assertEqual(line_fields(arches.chart.line), line_fields(arches.line))
            self.assertEqual([rest_fields(rest) for rest in arches.chart.rests],
                             [rest_fields(rest) for rest in asked.rests])
            self.assertEqual((arches.chart.towers, arches.chart.bands), (asked.towers, asked.bands))

    def test_kinds(self):
        for above, below in small_told()[::40] + great_told():
            for kind in (list, tuple):
                arches = Arches(kind(above), kind(below))
                self.assertEqual((type(arches.above), type(arches.below), type(arches.size)), (tuple, tuple, int))
                self.assertEqual((arches.above, arches.below), (tuple(above), tuple(below)))
                self.assertEqual((arches.size, arches.line.size), (sum(above), sum(above)))

    def test_what_is_handed_in_is_kept_as_a_copy(self):
        above, below = [5, 1, 2, 4], [3, 9]
        arches = Arches(above, below)
        self.assertEqual((above, below), ([5, 1, 2, 4], [3, 9]))
        asked = [(arch_above(arches, x), arch_below(arches, x), goes(arches.line, x)) for x in range(12)]
        above[0], below[1] = 7, 4
        above.append(10 ** 9)
        below.clear()
        self.assertEqual((arches.above, arches.below, arches.size), ((5, 1, 2, 4), (3, 9), 12))
        self.assertEqual([(arch_above(arches, x), arch_below(arches, x), goes(arches.line, x)) for x in range(12)],
                         asked)

    def test_the_same_again(self):
        for above, below in small_told()[::40] + great_told():
            one, two = Arches(above, below), Arches(tuple(above), tuple(below))
            self.assertEqual(line_fields(one.line), line_fields(two.line))
            self.assertEqual(one.chart.bands, two.chart.bands)
            for x in (0, one.size // 3, one.size - 1):
                self.assertEqual(arch_above(one, x), arch_above(two, x))
                self.assertEqual(arch_below(one, x), arch_below(one, x))

    def test_by_the_names_of_the_arguments(self):
        arches = Arches(above=[5, 1], below=[2, 4])
        self.assertEqual(arch_above(arches=arches, x=0), 4)
        self.assertEqual(arch_below(arches=arches, x=0), 1)


if __name__ == "__main__":
    unittest.main()
