import unittest
from itertools import permutations
from random import Random

from relaid.going import goes
from relaid.lines import Line
from relaid.plain import plain, same
from samples import (GREATEST, Timed, cut_otherwise, gone_by, great_lines, line_fields, piece_ends, plain_told,
                     small_lines, told_lines, walked_lines)

MIDDLE = 4 * 10 ** 29


def together(line, x):
    """Whether a place and the one behind it come to neighbouring places."""
    return abs(goes(line, x) - goes(line, x + 1)) == 1


def is_plain(line):
    ends = [start - 1 for start in line.starts[1:]]
    single = [turned for length, turned in zip(line.lengths, line.turned) if length == 1]
    return not any(together(line, x) for x in ends) and True not in single


def line_of_going(gone):
    """A line of single places that go as told."""
    return Line([1] * len(gone), sorted(range(len(gone)), key=lambda x: gone[x]))


def swapped(line, x, y):
    """A line of single places with the same going, but for two places, which have changed where they go to."""
    gone = gone_by(line)
    gone[x], gone[y] = gone[y], gone[x]
    return line_of_going(gone)


class Told(unittest.TestCase):
    def asked(self, told, lengths, order, turned):
        line = Line(*told)
        for one in (plain(line), plain(plain(line))):
            self.assertIs(type(one), Line)
            self.assertEqual(line_fields(one), (lengths, order, turned))
            self.assertEqual(one.size, line.size)

    def test_neighbours_that_go_together(self):
        self.asked(([2, 3, 4], [2, 0, 1]), (5, 4), (1, 0), (False, False))
        self.asked(([2, 3, 4, 1], [2, 3, 0, 1]), (5, 5), (1, 0), (False, False))
        self.asked(([2, 3, 4, 1], [0, 3, 1, 2]), (2, 7, 1), (0, 2, 1), (False, False, False))

    def test_a_line_that_is_plain(self):
        self.asked(([6, 4], [1, 0]), (6, 4), (1, 0), (False, False))
        self.asked(([3, 1, 4], [2, 0, 1], [True, False, True]), (3, 1, 4), (2, 0, 1), (True, False, True))
        self.asked(([2, 2], [0, 1], [True, True]), (2, 2), (0, 1), (True, True))
        self.asked(([7], [0], [True]), (7,), (0,), (True,))

    def test_turned_pieces_of_one_place(self):
        self.asked(([1], [0], [True]), (1,), (0,), (False,))
        self.asked(([3, 1, 3], [2, 1, 0], [False, True, False]), (3, 1, 3), (2, 1, 0), (False, False, False))
        self.asked(([3, 1, 3], [2, 0, 1], [True, True, True]), (3, 1, 3), (2, 0, 1), (True, False, True))
        self.asked(([3, 1, 3], [1, 0, 2], [True, True, True]), (4, 3), (0, 1), (True, True))
        self.asked(([3, 1, 2], [2, 0, 1], [False, True, False]), (4, 2), (1, 0), (False, False))
        self.asked(([1, 1, 1], [0, 1, 2], [True, True, True]), (3,), (0,), (False,))

    def test_pieces_laid_behind_one_another_turned_about(self):
        self.asked(([2, 3, 4], [1, 0, 2], [True, True, False]), (5, 4), (0, 1), (True, False))
        self.asked(([2, 3, 4], [2, 1, 0], [True, True, True]), (9,), (0,), (True,))
        self.asked(([1, 1], [1, 0]), (2,), (0,), (True,))
        self.asked(([1, 1, 1, 1], [3, 2, 1, 0]), (4,), (0,), (True,))
        self.asked(([1, 3, 1], [2, 1, 0], [False, True, False]), (5,), (0,), (True,))
        self.asked(([1, 3, 1], [2, 1, 0]), (1, 3, 1), (2, 1, 0), (False, False, False))

    def test_lines_that_leave_each_place(self):
        self.asked(([3, 5, 2], [0, 1, 2]), (10,), (0,), (False,))
        self.asked(([1] * 24, list(range(24)), [True] * 24), (24,), (0,), (False,))
        self.asked(([GREATEST - 23] + [1] * 23, list(range(24))), (GREATEST,), (0,), (False,))

    def test_great_lengths(self):
        self.asked(([MIDDLE, 1, MIDDLE, 5], [3, 2, 1, 0], [True, False, True, False]),
                   (2 * MIDDLE + 1, 5), (1, 0), (True, False))
        self.asked(([MIDDLE, 1, MIDDLE, 5], [3, 0, 1, 2], [False, True, False, True]),
                   (2 * MIDDLE + 1, 5), (1, 0), (False, True))
        self.asked(([MIDDLE, 1, MIDDLE, 5], [3, 0, 1, 2], [True, True, False, True]),
                   (MIDDLE, MIDDLE + 1, 5), (2, 0, 1), (True, False, True))


class Plain(Timed):
    def test_as_found_place_by_place(self):
        for line in walked_lines():
            self.assertEqual(line_fields(plain(line)), plain_told(gone_by(line)))

    def test_all_goings_of_few_places(self):
        for size in range(1, 7):
            for gone in permutations(range(size)):
                told = plain(line_of_going(gone))
                self.assertEqual(line_fields(told), plain_told(gone))
                self.assertEqual(gone_by(told), list(gone))

    def test_each_place_goes_to_the_same_place(self):
        for line in walked_lines():
            told = plain(line)
            self.assertEqual([goes(told, x) for x in range(line.size)], gone_by(line))

    def test_great_lines(self):
        draw = Random(81)
        fewer = 0
        for line in great_lines():
            for other in (line, cut_otherwise(line, draw)):
                told = plain(other)
                self.assertEqual(told.size, line.size)
                for x in piece_ends(other) + piece_ends(told):
                    self.assertEqual(goes(told, x), goes(line, x))
                self.assertTrue(is_plain(told))
                self.assertEqual(line_fields(plain(told)), line_fields(told))
                fewer += len(told.lengths) < len(other.lengths)
        self.assertGreater(fewer, 10)

    def test_cut_otherwise(self):
        draw = Random(82)
        for line in walked_lines()[::3] + great_lines():
            for most in (len(line.lengths) + 1, 24):
                other = cut_otherwise(line, draw, most)
                self.assertEqual(line_fields(plain(other)), line_fields(plain(line)))

    def test_kinds(self):
        for line in [Line(*told) for told in told_lines()]:
            told = plain(line)
            self.assertIs(type(told), Line)
            self.assertEqual([type(length) for length in told.lengths], [int] * len(told.lengths))
            self.assertEqual([type(piece) for piece in told.order], [int] * len(told.lengths))
            self.assertEqual([type(turned) for turned in told.turned], [bool] * len(told.lengths))

    def test_the_same_again_and_nothing_changed(self):
        for told in told_lines():
            line = Line(*told)
            one = line_fields(plain(line))
            self.assertEqual(line_fields(plain(line)), one)
            self.assertEqual(line_fields(plain(Line(*told))), one)
            self.assertEqual(line_fields(line), tuple(tuple(row) for row in told))

    def test_by_the_name_of_the_argument(self):
        self.assertEqual(plain(line=Line([1, 1], [1, 0])).lengths, (2,))
        self.assertIs(same(one=Line([1, 1], [1, 0]), two=Line([2], [0], [True])), True)


class Same(Timed):
    def test_told(self):
        self.assertIs(same(Line([3, 5, 2], [0, 1, 2]), Line([10], [0])), True)
        self.assertIs(same(Line([1, 1], [1, 0]), Line([2], [0], [True])), True)
        self.assertIs(same(Line([1], [0], [True]), Line([1], [0])), True)
        self.assertIs(same(Line([2], [0], [True]), Line([2], [0])), False)
        self.assertIs(same(Line([6, 4], [1, 0]), Line([4, 6], [1, 0])), False)
        self.assertIs(same(Line([6, 4], [1, 0]), Line([6, 4], [1, 0], [True, False])), False)
        self.assertIs(same(Line([2, 1], [0, 1]), Line([4], [0])), False)

    def test_cut_otherwise(self):
        draw = Random(83)
        for line in walked_lines()[::3] + great_lines():
            other = cut_otherwise(line, draw)
            self.assertIs(same(line, other), True)
            self.assertIs(same(other, line), True)
            self.assertIs(same(other, cut_otherwise(line, draw)), True)

    def test_two_places_that_go_otherwise(self):
        draw = Random(84)
        for line in [line for line in small_lines() if 2 <= line.size <= 24]:
            x, y = sorted(draw.sample(range(line.size), 2))
            self.assertIs(same(line, swapped(line, x, y)), False)
            self.assertIs(same(swapped(line, x, y), line), False)
            self.assertIs(same(line, swapped(swapped(line, x, y), x, y)), True)

    def test_any_two_small_lines(self):
        found = {True: 0, False: 0}
        lines = [line for line in small_lines() if line.size <= 5]
        gone = [gone_by(line) for line in lines]
        for one in range(0, len(lines), 3):
            for two in range(len(lines)):
                asked = gone[one] == gone[two]
                self.assertIs(same(lines[one], lines[two]), asked)
                found[asked] += 1
        self.assertGreater(min(found.values()), 500)

    def test_great_lines_that_differ(self):
        draw = Random(85)
        lines = great_lines()
        for one, line in enumerate(lines):
            for two in range(one):
                asked = line_fields(plain(line)) == line_fields(plain(lines[two]))
                self.assertIs(same(line, lines[two]), asked)
            turned = list(line.turned)
            piece = draw.randrange(len(turned))
            turned[piece] = not turned[piece]
            self.assertIs(same(line, Line(line.lengths, line.order, turned)), line.lengths[piece] == 1)

    def test_sizes_that_differ(self):
        for size in (2, 7, GREATEST):
            for turned in (False, True):
                self.assertIs(same(Line([size], [0], [turned]), Line([size - 1], [0], [turned])), False)
                self.assertIs(same(Line([size - 1], [0], [turned]), Line([size], [0], [turned])), False)
                self.assertIs(same(Line([size - 1], [0], [turned]), Line([size - 1, 1], [0, 1], [turned, False])),
                              False)


if __name__ == "__main__":
    unittest.main()
