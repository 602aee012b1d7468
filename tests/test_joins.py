import unittest
from math import gcd
from random import Random

from relaid.charts import Chart
from relaid.errors import TooMany, Unlike
from relaid.going import comes, goes
from relaid.joins import back_line, joined, repeated
from relaid.lines import Line
from relaid.plain import same
from relaid.rounds import after, rounds
from samples import (GREATEST, Timed, all_rounds, counted, cut_otherwise, drawn_told_lines, gone_by, great_lines,
                     laid_out, line_fields, piece_ends, plain_told, small_lines, small_told_lines, told_lines,
                     walked_lines)

MOST = 24
FACTOR = 10 ** 27


def gone_through(goings):
    """By place: where the told goings, rows of the places gone to, lead one after the other."""
    told = list(range(len(goings[0])))
    for gone in goings:
        told = [gone[x] for x in told]
    return told


def gone_back(line):
    """By place: the place that goes to it."""
    return laid_out(line.lengths, line.order, line.turned)


def gone_times(line, times):
    """By place: where so many goings lead, on or back."""
    return gone_through([list(range(line.size))] + [gone_by(line) if times > 0 else gone_back(line)] * abs(times))


def fields_or_none(gone):
    """The plain line's fields by the words of 8.1, or None where it would have too many pieces."""
    told = plain_told(gone)
    return told if len(told[0]) <= MOST else None


def line_of_size(draw, pieces, size):
    """A drawn line of so many pieces and places."""
    cuts = [0] + sorted(draw.sample(range(1, size), pieces - 1)) + [size]
    order = list(range(pieces))
    draw.shuffle(order)
    return Line([end - start for start, end in zip(cuts, cuts[1:])], order, [draw.random() < 0.4 for _ in order])


def line_of_size_far(draw, pieces, size):
    """A drawn line of so many pieces of great lengths, and so many places."""
    line = line_of_size(draw, pieces, 10 ** 6)
    lengths = [length * (size // 10 ** 6) + draw.randrange(1000) for length in line.lengths]
    lengths[0] += size - sum(lengths)
    return Line(lengths, line.order, line.turned)


def pairs_of_one_size(draw, number, most_pieces, size):
    return [[line_of_size(draw, draw.randint(1, most_pieces), size) for _ in range(2)] for _ in range(number)]


def drawn_wide(line, factor):
    """The line with each piece so many times as long."""
    return Line([factor * length for length in line.lengths], line.order, line.turned)


def wide_fields(gone, factor):
    """The plain fields of a wide line's going, told by that of the line drawn out to twice its lengths: from two places
    on it doesn't count how many each place was drawn out to."""
    lengths, order, turned = plain_told(gone)
    return (tuple(length // 2 * factor for length in lengths), order, turned)


def leaves_each(size):
    return ((size,), (0,), (False,))


class Asked(Timed):
    def told_or_too_many(self, fields, asked, *told):
        """Whether it is told; refused where no fields are asked for."""
        if fields is None:
            self.refused(TooMany, asked, *told)
        else:
            line = asked(*told)
            self.assertIs(type(line), Line)
            self.assertEqual(line_fields(line), fields)
        return fields is not None

    def is_plain(self, line):
        for piece, start in enumerate(line.starts):
            if start > 0:
                self.assertNotEqual(abs(goes(line, start) - goes(line, start - 1)), 1)
            self.assertFalse(line.lengths[piece] == 1 and line.turned[piece])


class Joined(Asked):
    def test_told(self):
        for one, two, asked in ((([6, 4], [1, 0]), ([6, 4], [1, 0]), ((2, 8), (1, 0), (False, False))),
                                (([6, 4], [1, 0]), ([4, 6], [1, 0]), leaves_each(10)),
                                (([7], [0], [True]), ([7], [0], [True]), leaves_each(7)),
                                (([2, 3], [1, 0]), ([5], [0], [True]), ((2, 3), (0, 1), (True, True))),
                                (([5], [0], [True]), ([2, 3], [1, 0]), ((3, 2), (0, 1), (True, True))),
                                (([1], [0], [True]), ([1], [0]), leaves_each(1)),
                                (([1, 2], [1, 0]), ([2, 1], [0, 1], [True, False]), ((3,), (0,), (True,))),
                                (([2, 1], [0, 1], [True, False]), ([1, 2], [1, 0]), ((1, 2), (0, 1), (False, True)))):
            self.assertEqual(line_fields(joined(Line(*one), Line(*two))), asked)

    def test_the_first_goes_first(self):
        one, two = Line([1, 2], [1, 0]), Line([2, 1], [0, 1], [True, False])
        self.assertEqual((gone_by(one), gone_by(two)), ([2, 0, 1], [1, 0, 2]))
        self.assertEqual(gone_by(joined(one, two)), [2, 1, 0])
        self.assertEqual(gone_by(joined(two, one)), [0, 2, 1])

    def test_small_lines_place_by_place(self):
        lines = [line for line in small_lines() if line.size in (4, 5)]
        for one in lines[::4]:
            for two in [line for line in lines if line.size == one.size][::3]:
                asked = plain_told(gone_through([gone_by(one), gone_by(two)]))
                self.assertEqual(line_fields(joined(one, two)), asked)

    def test_drawn_lines_place_by_place(self):
        for one, two in pairs_of_one_size(Random(86), 400, 12, 40):
            gone = gone_through([gone_by(one), gone_by(two)])
            self.assertEqual(line_fields(joined(one, two)), plain_told(gone))
            self.assertEqual(gone_by(joined(one, two)), gone)

    def test_great_lines(self):
        draw = Random(87)
        for size in (GREATEST, 10 ** 28, 10 ** 28 + 1):
            for _ in range(30):
                pieces = draw.randint(1, 24)
                one, two = line_of_size_far(draw, pieces, size), line_of_size_far(draw, 25 - pieces, size)
                told = joined(one, two)
                for x in piece_ends(one) + piece_ends(told) + [comes(one, y) for y in piece_ends(two)]:
                    self.assertEqual(goes(told, x), goes(two, goes(one, x)))
                self.assertEqual(told.size, size)
                self.is_plain(told)

    def test_small_lines_drawn_out(self):
        for one, two in pairs_of_one_size(Random(88), 100, 12, 40):
            gone = gone_through([gone_by(drawn_wide(line, 2)) for line in (one, two)])
            for factor in (2, 3, FACTOR):
                told = joined(drawn_wide(one, factor), drawn_wide(two, factor))
                self.assertEqual(line_fields(told), wide_fields(gone, factor))

    def test_cut_otherwise(self):
        draw = Random(89)
        for one, two in pairs_of_one_size(draw, 50, 12, 60):
            asked = line_fields(joined(one, two))
            self.assertEqual(line_fields(joined(cut_otherwise(one, draw), cut_otherwise(two, draw))), asked)


class Back(Asked):
    def test_told(self):
        for told, asked in ((([6, 4], [1, 0]), ((4, 6), (1, 0), (False, False))),
                            (([2, 3], [1, 0], [False, True]), ((3, 2), (1, 0), (True, False))),
                            (([3, 1, 4], [2, 0, 1]), ((4, 4), (1, 0), (False, False))),
                            (([3, 1, 4], [2, 0, 1], [True, True, True]), ((4, 3, 1), (1, 2, 0), (True, True, False))),
                            (([1, 1], [1, 0]), ((2,), (0,), (True,))),
                            (([3, 5, 2], [0, 1, 2]), leaves_each(10)),
                            (([1], [0], [True]), leaves_each(1))):
            self.assertEqual(line_fields(back_line(Line(*told))), asked)

    def test_place_by_place(self):
        for line in walked_lines():
            told = back_line(line)
            self.assertIs(type(told), Line)
            self.assertEqual(line_fields(told), plain_told(gone_back(line)))
            self.assertEqual([goes(told, x) for x in range(line.size)], [comes(line, x) for x in range(line.size)])

    def test_great_lines(self):
        for line in great_lines():
            told = back_line(line)
            self.is_plain(told)
            self.assertEqual(told.size, line.size)
            for x in piece_ends(line) + piece_ends(told):
                self.assertEqual(goes(told, x), comes(line, x))
                self.assertEqual(comes(told, x), goes(line, x))
            self.assertTrue(same(back_line(told), line))

    def test_joined_with_the_line(self):
        draw = Random(90)
        for line in walked_lines() + great_lines():
            back = back_line(line)
            for one, two in ((line, back), (back, line), (cut_otherwise(line, draw), cut_otherwise(back, draw))):
                self.assertEqual(line_fields(joined(one, two)), leaves_each(line.size))


class Repeated(Asked):
    def test_told(self):
        line = Line([6, 4], [1, 0])
        for times, asked in ((0, leaves_each(10)), (1, ((6, 4), (1, 0), (False, False))),
                             (2, ((2, 8), (1, 0), (False, False))), (3, ((8, 2), (1, 0), (False, False))),
                             (5, leaves_each(10)), (10, leaves_each(10)), (12, ((2, 8), (1, 0), (False, False))),
                             (-1, ((4, 6), (1, 0), (False, False))), (-12, ((8, 2), (1, 0), (False, False)))):
            self.assertEqual(line_fields(repeated(line, times)), asked)
        turned = Line([7], [0], [True])
        for times in range(-12, 13):
            asked = leaves_each(7) if times % 2 == 0 else ((7,), (0,), (True,))
            self.assertEqual(line_fields(repeated(turned, times)), asked)

    def test_each_number_place_by_place(self):
        for line in [Line(*told) for told in small_told_lines()[::7] + drawn_told_lines(7, 12, 60)]:
            for times in range(-12, 13):
                self.told_or_too_many(fields_or_none(gone_times(line, times)), repeated, line, times)

    def test_none_one_and_one_back(self):
        for line in walked_lines() + great_lines():
            self.assertEqual(line_fields(repeated(line, 0)), leaves_each(line.size))
            self.is_plain(repeated(line, 1))
            self.assertTrue(same(repeated(line, 1), line))
            self.assertEqual(line_fields(repeated(line, -1)), line_fields(back_line(line)))

    def test_great_lines(self):
        for told in drawn_told_lines(3, 4 * 10 ** 28, 40):
            line = Line(*told)
            chart = Chart(line)
            for times in range(-11, 12):
                many = repeated(line, times)
                self.is_plain(many)
                for x in piece_ends(line, 8) + piece_ends(many, 8):
                    self.assertEqual(goes(many, x), after(chart, x, times))

    def test_small_lines_drawn_out(self):
        for told in drawn_told_lines(7, 12, 40):
            line = Line(*told)
            for times in (-12, -5, -2, 2, 3, 7, 12):
                gone = gone_times(drawn_wide(line, 2), times)
                fields = None if len(plain_told(gone)[0]) > MOST else wide_fields(gone, FACTOR)
                self.told_or_too_many(fields, repeated, drawn_wide(line, FACTOR), times)

    def test_great_turns_of_two_pieces(self):
        for one, two in ((1, GREATEST - 1), (10 ** 29 + 7, 3 * 10 ** 29), (5 ** 40, 2 ** 90)):
            size = one + two
            for times in range(-12, 13):
                led = times * two % size
                asked = ((size - led, led), (1, 0), (False, False)) if led else leaves_each(size)
                self.assertEqual(line_fields(repeated(Line([one, two], [1, 0]), times)), asked)


class Refusals(Asked):
    def test_sizes_that_differ(self):
        lines = [Line(*told) for told in told_lines()]
        for one in lines:
            for two in lines:
                if one.size != two.size:
                    self.refused(Unlike, joined, one, two)
        for size in (1, 2, 7, GREATEST - 1):
            self.refused(Unlike, joined, Line([size], [0]), Line([size + 1], [0]))
            self.refused(Unlike, joined, Line([size + 1], [0]), Line([size], [0]))

    def test_unlike_goes_ahead_of_too_many(self):
        draw = Random(91)
        for _ in range(10):
            one, two = line_of_size(draw, 24, 500), line_of_size(draw, 24, 500)
            self.refused(TooMany, joined, one, two)
            self.refused(Unlike, joined, one, line_of_size(draw, 24, 501))
            self.refused(Unlike, joined, line_of_size(draw, 24, 499), two)

    def test_joins_just_at_the_most_pieces(self):
        draw = Random(92)
        found = {}
        for _ in range(150):
            one, two = line_of_size(draw, 12, 200), line_of_size(draw, draw.randint(12, 15), 200)
            for factor, lines in ((1, (one, two)), (2, (drawn_wide(one, 2), drawn_wide(two, 2)))):
                gone = gone_through([gone_by(line) for line in lines])
                pieces = len(plain_told(gone)[0])
                self.told_or_too_many(fields_or_none(gone), joined, *lines)
                found[pieces, factor] = found.get((pieces, factor), 0) + 1
            far = wide_fields(gone, FACTOR) if pieces <= MOST else None
            self.told_or_too_many(far, joined, drawn_wide(one, FACTOR), drawn_wide(two, FACTOR))
        for pieces in (MOST - 1, MOST, MOST + 1, MOST + 2):
            for factor in (1, 2):
                self.assertGreater(found[pieces, factor], 5)

    def test_lines_repeated_just_at_the_most_pieces(self):
        found = {}
        for told in drawn_told_lines(7, 12, 300):
            line = Line(*told)
            for times in range(-12, 13):
                gone = gone_times(line, times)
                pieces = len(plain_told(gone)[0])
                if pieces in (MOST, MOST + 1):
                    self.told_or_too_many(fields_or_none(gone), repeated, line, times)
                    found[pieces, times > 0] = found.get((pieces, times > 0), 0) + 1
        self.assertEqual(len(found), 4)
        self.assertGreater(min(found.values()), 9)

    def test_joins_that_have_more_pieces_on_the_way(self):
        draw = Random(93)
        for pieces in (13, 20, 22):
            for _ in range(10):
                one = line_of_size(draw, pieces, 300)
                two = cut_otherwise(joined(back_line(one), line_of_size(draw, 2, 300)), draw)
                gone = gone_through([gone_by(one), gone_by(two)])
                self.assertEqual(line_fields(joined(one, two)), plain_told(gone))
                self.assertEqual(len(two.lengths), MOST)

    def told_after_more(self, line):
        """The numbers of goings, with the going, that lead to a line told behind some that have too many pieces."""
        told = []
        most = 1
        for times in range(1, 13):
            gone = gone_times(line, times)
            pieces = len(plain_told(gone)[0])
            if pieces <= MOST < most:
                told.append((times, gone))
            most = max(most, pieces)
        return told

    def test_lines_repeated_that_have_more_pieces_on_the_way(self):
        found = 0
        for told in drawn_told_lines(7, 12, 400) + drawn_told_lines(12, 6, 400):
            line = Line(*told)
            for times, gone in self.told_after_more(line):
                found += 1
                self.assertEqual(line_fields(repeated(line, times)), plain_told(gone))
                self.assertEqual(line_fields(repeated(line, -times)), plain_told(gone_times(line, -times)))
        self.assertGreater(found, 20)

    def test_great_lines_repeated_that_have_more_pieces_on_the_way(self):
        found = 0
        for told in drawn_told_lines(7, 12, 400) + drawn_told_lines(12, 6, 400):
            line = Line(*told)
            for times, gone in self.told_after_more(drawn_wide(line, 2)):
                found += 1
                self.assertEqual(line_fields(repeated(drawn_wide(line, FACTOR), times)), wide_fields(gone, FACTOR))
        self.assertGreater(found, 20)


class Rounds(Asked):
    def rounds_repeated(self, told, times):
        """What becomes of rounds, pairs of a length and a number, by the words of 12.4."""
        counts = {}
        for length, number in told:
            shared = gcd(length, times)
            counts[length // shared] = counts.get(length // shared, 0) + shared * number
        return sorted(counts.items())

    def test_of_the_line_back(self):
        for line in walked_lines()[::2] + great_lines():
            self.assertEqual(rounds(Chart(back_line(line))), rounds(Chart(line)))

    def test_of_the_line_back_as_walked(self):
        for line in walked_lines()[::5]:
            asked = counted([len(way) for way in all_rounds(gone_by(line))])
            self.assertEqual(rounds(Chart(back_line(line))), asked)

    def test_of_a_line_repeated(self):
        for line in [Line(*told) for told in small_told_lines()[::11] + drawn_told_lines(7, 12, 60)]:
            told = rounds(Chart(line))
            for times in range(1, 13):
                gone = gone_times(line, times)
                if len(plain_told(gone)[0]) <= MOST:
                    asked = self.rounds_repeated(told, times)
                    self.assertEqual(rounds(Chart(repeated(line, times))), asked)
                    self.assertEqual(rounds(Chart(repeated(line, -times))), asked)
                    self.assertEqual(counted([len(way) for way in all_rounds(gone)]), asked)

    def test_of_great_lines_repeated(self):
        wide = [([FACTOR * length for length in told[0]],) + told[1:] for told in drawn_told_lines(3, 30, 20)]
        for told in drawn_told_lines(3, 4 * 10 ** 28, 20) + wide:
            line = Line(*told)
            ahead = rounds(Chart(line))
            for times in range(1, 12):
                asked = self.rounds_repeated(ahead, times)
                self.assertEqual(rounds(Chart(repeated(line, times))), asked)


class Asking(Asked):
    def test_by_the_names_of_the_arguments(self):
        line = Line([6, 4], [1, 0])
        self.assertEqual(joined(one=line, two=Line([10], [0])).lengths, (6, 4))
        self.assertEqual(back_line(line=line).lengths, (4, 6))
        self.assertEqual(repeated(line=line, times=2).lengths, (2, 8))

    def test_the_same_again_and_nothing_changed(self):
        draw = Random(95)
        for one, two in pairs_of_one_size(draw, 20, 12, 40):
            kept = (line_fields(one), line_fields(two))
            told = [[line_fields(line) for line in (joined(one, two), back_line(one), repeated(one, 1))]
                    for _ in range(2)]
            self.assertEqual(told[0], told[1])
            self.assertEqual((line_fields(one), line_fields(two)), kept)

    def test_quickly(self):
        for line in great_lines():
            for times in (12, -12):
                try:
                    self.assertEqual(repeated(line, times).size, line.size)
                except TooMany:
                    self.assertGreater(len(line.lengths), 2)


if __name__ == "__main__":
    unittest.main()
