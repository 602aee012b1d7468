import unittest
from math import gcd
from random import Random

from arch_samples import drawn_blocks, great_told, led, odd_blocks, small_told, walked_ends, walked_kinds
from relaid.arches import Arches, arch_above, arch_below
from relaid.errors import Outside
from relaid.rounds import between, round_length, rounds
from relaid.strands import loops_and_ways, strand, strands, together
from samples import FACTORS, GREATEST, Timed, counted


def counted_kinds(kinds):
    """The triples that 9.3 and the interface ask for, of pairs of a kind and a number of dots."""
    return [(word, dots, number) for word in ("loop", "way")
            for dots, number in counted([dots for kind, dots in kinds if kind == word])]


def added_up(told):
    """The triples with all numbers of strands of one kind and one number of dots added up, in their order."""
    sums = {}
    for word, dots, number in told:
        sums[(word, dots)] = sums.get((word, dots), 0) + number
    return [(word, dots, sums[(word, dots)]) for word, dots in sorted(sums) if sums[(word, dots)]]


class Bundled:
    """Small arches, each dot of which is a bundle of as many dots: each block is as many times as long, and an arch
    between two dots becomes arches between their bundles, the first dot of one and the last of the other. A dot
    without an arch becomes a bundle with arches within."""

    def __init__(self, above, below, factor):
        self.factor = factor
        self.kinds = walked_kinds(above, below)
        self.led = (led(walked_ends(above)), led(walked_ends(below)))
        self.arches = Arches([factor * length for length in above], [factor * length for length in below])

    def ends(self, x):
        small, offset = divmod(x, self.factor)
        return [ends[small] * self.factor + self.factor - 1 - offset for ends in self.led]

    def dots_of(self, x):
        """All dots of the strand of a dot."""
        dots, fresh = {x}, [x]
        while fresh:
            fresh = [end for dot in fresh for end in self.ends(dot) if end not in dots]
            dots |= set(fresh)
        return dots

    def strand(self, x):
        dots = self.dots_of(x)
        return ("way" if any(dot in self.ends(dot) for dot in dots) else "loop", len(dots))

    def strands(self):
        # A loop becomes as many loops. A way's dots come back at its ends, each on the other side of its bundle's
        # middle: two dots of a bundle make a loop, of twice the way's dots, and a dot in the middle makes a way.
        told = [("loop", len(dots), self.factor) for word, dots in self.kinds if word == "loop"]
        for dots in [len(dots) for word, dots in self.kinds if word == "way"]:
            told += [("loop", 2 * dots, self.factor // 2), ("way", dots, self.factor % 2)]
        return added_up(told)

    def dots(self):
        offsets = {0, 1, self.factor // 3, self.factor // 2, self.factor - 1}
        return [small * self.factor + offset for small in range(len(self.led[0]))
                for offset in sorted(offsets | {self.factor - 1 - offset for offset in offsets})]


def bundled():
    told = small_told()
    chosen = told[::37] + told[-6:]
    return [Bundled(above, below, factor) for above, below in chosen for factor in FACTORS]


class Strand(Timed):
    def test_told(self):
        # Above 0-4 1-3 and 2, 5 alone; below 0-1, 2-5 3-4.
        arches = Arches([5, 1], [2, 4])
        self.assertEqual([strand(arches, x) for x in range(6)],
                         [("loop", 4), ("loop", 4), ("way", 2), ("loop", 4), ("loop", 4), ("way", 2)])
        self.assertEqual([strand(Arches([2], [2]), x) for x in range(2)], [("loop", 2)] * 2)
        self.assertEqual([strand(Arches([2], [1, 1]), x) for x in range(2)], [("way", 2)] * 2)
        self.assertEqual([strand(Arches([3], [3]), x) for x in range(3)], [("loop", 2), ("way", 1), ("loop", 2)])
        self.assertEqual(strand(Arches([1], [1]), 0), ("way", 1))

    def test_from_every_dot(self):
        for above, below in small_told():
            arches = Arches(above, below)
            for word, dots in walked_kinds(above, below):
                for x in dots:
                    self.assertEqual(strand(arches, x), (word, len(dots)))

    def test_great_bundles(self):
        for one in bundled():
            for x in one.dots():
                self.assertEqual(strand(one.arches, x), one.strand(x))

    def test_one_strand_all_along(self):
        draw = Random(103)
        for above, below in great_told():
            arches = Arches(above, below)
            for x in [0, arches.size - 1] + [draw.randrange(arches.size) for _ in range(5)]:
                told = strand(arches, x)
                for arch in (arch_above, arch_below):
                    end = arch(arches, x)
                    if end is None:
                        self.assertEqual(told[0], "way")
                    else:
                        self.assertEqual(strand(arches, end), told)

    def test_the_ends_of_great_ways(self):
        ways = 0
        for above, below in great_told():
            arches = Arches(above, below)
            for lengths in (above, below):
                for at, length in enumerate(lengths):
                    if length % 2:
                        ways += 1
                        self.assertEqual(strand(arches, sum(lengths[:at]) + length // 2)[0], "way")
        self.assertGreater(ways, 50)

    def test_kinds(self):
        for above, below in small_told()[::40] + great_told():
            told = strand(Arches(above, below), 0)
            self.assertIs(type(told), tuple)
            self.assertEqual([type(part) for part in told], [str, int])


class Together(Timed):
    def test_told(self):
        arches = Arches([5, 1], [2, 4])
        self.assertEqual([y for y in range(6) if together(arches, 0, y)], [0, 1, 3, 4])
        self.assertEqual([y for y in range(6) if together(arches, 5, y)], [2, 5])

    def test_every_two(self):
        told = small_told()
        for above, below in told[:1365:2] + [one for one in told[1365:] if sum(one[0]) < 30]:
            arches = Arches(above, below)
            for _, dots in walked_kinds(above, below):
                for x in dots:
                    self.assertEqual([y for y in range(arches.size) if together(arches, x, y)], dots)

    def test_great_bundles(self):
        for one in bundled()[::13]:
            asked = one.dots()
            for x in asked[::4]:
                dots = one.dots_of(x)
                self.assertEqual([y for y in asked if together(one.arches, x, y)], [y for y in asked if y in dots])

    def test_along_great_arches(self):
        draw = Random(104)
        for above, below in great_told():
            arches = Arches(above, below)
            for x in [0, arches.size - 1] + [draw.randrange(arches.size) for _ in range(3)]:
                y = x
                for arch in (arch_above, arch_below) * 3:
                    end = arch(arches, y)
                    y = y if end is None else end
                    self.assertIs(together(arches, x, y), True)
                    self.assertIs(together(arches, y, x), True)
                y = draw.randrange(arches.size)
                if strand(arches, x) != strand(arches, y):
                    self.assertIs(together(arches, x, y), False)
                self.assertIs(together(arches, x, y), together(arches, y, x))


class All(Timed):
    def test_told(self):
        self.assertEqual(strands(Arches([5, 1], [2, 4])), [("loop", 4, 1), ("way", 2, 1)])
        self.assertEqual(strands(Arches([1], [1])), [("way", 1, 1)])
        self.assertEqual(strands(Arches([2], [2])), [("loop", 2, 1)])
        self.assertEqual(strands(Arches([7], [7])), [("loop", 2, 3), ("way", 1, 1)])
        self.assertEqual(strands(Arches([1] * 12, [1] * 12)), [("way", 1, 12)])
        self.assertEqual(strands(Arches([1] * 12, [2] * 6)), [("way", 2, 6)])
        self.assertEqual(strands(Arches([2] * 6, [1] + [2] * 5 + [1])), [("way", 12, 1)])
        self.assertEqual(strands(Arches([GREATEST], [GREATEST])), [("loop", 2, GREATEST // 2)])
        self.assertEqual(strands(Arches([GREATEST - 1], [GREATEST - 1])),
                         [("loop", 2, GREATEST // 2 - 1), ("way", 1, 1)])

    def test_as_walked(self):
        for above, below in small_told():
            arches = Arches(above, below)
            kinds = [(word, len(dots)) for word, dots in walked_kinds(above, below)]
            self.assertEqual(strands(arches), counted_kinds(kinds))
            words = [word for word, _ in kinds]
            self.assertEqual(loops_and_ways(arches), (words.count("loop"), words.count("way")))

    def test_each_number_of_blocks(self):
        for blocks in range(1, 13):
            for length in range(1, 6):
                row = [length] * blocks
                for above, below in ((row, [blocks * length]), ([blocks * length], row), (row, row)):
                    kinds = [(word, len(dots)) for word, dots in walked_kinds(above, below)]
                    self.assertEqual(strands(Arches(above, below)), counted_kinds(kinds))

    def test_great_bundles(self):
        for one in bundled():
            told = one.strands()
            self.assertEqual(strands(one.arches), told)
            self.assertEqual(loops_and_ways(one.arches),
                             tuple(sum(number for kind, _, number in told if kind == word) for word in ("loop", "way")))

    def test_half_as_many_ways_as_odd_blocks(self):
        for above, below in small_told() + great_told():
            ways = loops_and_ways(Arches(above, below))[1]
            self.assertEqual(2 * ways, odd_blocks(above, below))

    def test_all_dots(self):
        for above, below in small_told() + great_told():
            arches = Arches(above, below)
            told = strands(arches)
            self.assertEqual(sum(dots * number for _, dots, number in told), arches.size)
            self.assertEqual(told, added_up(told))
            self.assertTrue(all(number > 0 for _, _, number in told))
            self.assertEqual(loops_and_ways(arches),
                             tuple(sum(number for kind, _, number in told if kind == word) for word in ("loop", "way")))

    def test_kinds_and_new_lists(self):
        for above, below in small_told()[::40] + great_told():
            arches = Arches(above, below)
            told = strands(arches)
            self.assertIs(type(told), list)
            for one in told:
                self.assertIs(type(one), tuple)
                self.assertEqual([type(part) for part in one], [str, int, int])
            kept = list(told)
            told.reverse()
            told.append(("way", 1, 1))
            self.assertEqual(strands(arches), kept)
            told.clear()
            self.assertEqual(strands(arches), kept)
            both = loops_and_ways(arches)
            self.assertIs(type(both), tuple)
            self.assertEqual([type(part) for part in both], [int, int])

    def test_by_the_names_of_the_arguments(self):
        arches = Arches([5, 1], [2, 4])
        self.assertEqual(strand(arches=arches, x=2), ("way", 2))
        self.assertIs(together(arches=arches, x=2, y=5), True)
        self.assertEqual(strands(arches=arches), [("loop", 4, 1), ("way", 2, 1)])
        self.assertEqual(loops_and_ways(arches=arches), (1, 1))


class Refusals(Timed):
    def test_numbers_that_are_no_dot(self):
        for above, below in small_told()[::40] + great_told():
            arches = Arches(above, below)
            size = arches.size
            for x in (-1, -2, -size, -size - 1, -GREATEST, size, size + 1, 2 * size, size + GREATEST, 10 ** 60):
                self.refused(Outside, strand, arches, x)
                for y in (0, size // 2, size - 1, x):
                    self.refused(Outside, together, arches, x, y)
                    self.refused(Outside, together, arches, y, x)


class Rounds(Timed):
    def test_a_way_is_one_round_and_a_loop_two(self):
        for above, below in small_told()[::2]:
            arches = Arches(above, below)
            for word, dots in walked_kinds(above, below):
                x = dots[0]
                with_x = [y for y in dots if between(arches.chart, x, y) is not None]
                others = [y for y in dots if y not in with_x]
                if word == "way":
                    self.assertEqual((with_x, round_length(arches.chart, x)), (dots, len(dots)))
                    continue
                self.assertEqual((2 * len(with_x), 2 * len(others)), (len(dots), len(dots)))
                self.assertEqual([between(arches.chart, others[0], y) is None for y in others], [False] * len(others))
                self.assertEqual([round_length(arches.chart, y) for y in dots], [len(dots) // 2] * len(dots))

    def test_rounds_of_great_arches(self):
        for above, below in great_told():
            arches = Arches(above, below)
            counts = {}
            for word, dots, number in strands(arches):
                length, times = (dots, 1) if word == "way" else (dots // 2, 2)
                counts[length] = counts.get(length, 0) + times * number
            self.assertEqual(rounds(arches.chart), sorted(counts.items()))


class KnownBySums(Timed):
    def rows_of_two(self):
        draw = Random(105)
        small = [(a, b) for a in range(1, 25) for b in range(1, 25)]
        great = [tuple(drawn_blocks(draw, 2, GREATEST - more)) for more in range(20)]
        alike = [(6 * 10 ** 27, 9 * 10 ** 27), (10 ** 29, 10 ** 29), (1, GREATEST - 1), (GREATEST // 2 - 1, 7)]
        return small + great + alike

    def rows_of_three(self):
        draw = Random(106)
        small = [(a, b, c) for a in range(1, 11) for b in range(1, 11) for c in range(1, 11)]
        great = [tuple(drawn_blocks(draw, 3, GREATEST - more)) for more in range(20)]
        alike = [(6 * 10 ** 27, 9 * 10 ** 27, 10 ** 28), (10 ** 29,) * 3, (1, GREATEST - 2, 1), (1, 1, GREATEST - 2)]
        return small + great + alike

    def counted_both_ways(self, row, divisor):
        for above, below in ((row, [sum(row)]), ([sum(row)], row)):
            loops, ways = loops_and_ways(Arches(above, below))
            self.assertEqual(2 * loops + ways, divisor, (above, below))

    def test_two_blocks_and_one(self):
        for a, b in self.rows_of_two():
            self.counted_both_ways((a, b), gcd(a, b))

    def test_three_blocks_and_one(self):
        for a, b, c in self.rows_of_three():
            self.counted_both_ways((a, b, c), gcd(a + b, b + c))

    def test_blocks_twice_as_long(self):
        halves = []
        draw = Random(107)
        for size in (10 ** 28, GREATEST // 2 - 1, GREATEST // 2):
            for blocks in (1, 2, 3, 11, 12):
                halves.append((drawn_blocks(draw, blocks, size), drawn_blocks(draw, 12, size)))
                halves.append((drawn_blocks(draw, 12, size), drawn_blocks(draw, blocks, size)))
        for above, below in small_told() + halves:
            loops, ways = loops_and_ways(Arches(above, below))
            twice = Arches([2 * length for length in above], [2 * length for length in below])
            self.assertEqual(loops_and_ways(twice), (2 * loops + ways, 0))


if __name__ == "__main__":
    unittest.main()
