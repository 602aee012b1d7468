import unittest

from relaid.errors import Outside
from relaid.lines import Line
from relaid.rests import Rest, letter_at, rest_goes, rest_of
from samples import (GREATEST, drawn_told_rests, gone_rows, letters_of, rest_fields, small_rests, small_told_rests,
                     told_lines)


def great_told_rests():
    """Rests of great lengths as they are handed in, one of them of 24 letters in each row, one with letters gone."""
    lengths = [10 ** 28 + 7 * p for p in range(24)]
    top = [(5 * p + 3) % 24 for p in range(24)]
    bottom = [(11 * p + 1) % 24 for p in range(24)]
    return [
        (top, bottom, lengths, [p % 3 == 0 for p in range(24)]),
        ([0], [0], [GREATEST], [True]),
        ([2, 0], [0, 2], [GREATEST - 1, 0, 1, 0], [True, False, False, False]),
        ([3, 1, 4], [4, 3, 1], [0, 10 ** 29, 0, 3, 4 * 10 ** 29], [False, True, False, True, False]),
    ]


class Fields(unittest.TestCase):
    def test_a_rest(self):
        rest = Rest([2, 0], [0, 2], [3, 0, 4], [True, False, False])
        self.assertEqual((rest.top, rest.bottom), ((2, 0), (0, 2)))
        self.assertEqual((rest.lengths, rest.turned), ((3, 0, 4), (True, False, False)))
        self.assertEqual(rest.size, 7)

    def test_a_rest_without_letters(self):
        self.assertEqual(rest_fields(Rest([], [], [0, 0], [False, False])), ((), (), (0, 0), (False, False), 0))
        self.assertEqual(rest_fields(Rest((), (), (), ())), ((), (), (), (), 0))

    def test_many_rests_of_lists_and_of_tuples(self):
        for told in small_told_rests() + drawn_told_rests() + great_told_rests():
            asked = tuple(tuple(row) for row in told) + (sum(told[2]),)
            self.assertEqual(rest_fields(Rest(*told)), asked)
            self.assertEqual(rest_fields(Rest(*[tuple(row) for row in told])), asked)

    def test_kinds(self):
        for told in great_told_rests() + [([], [], [0], [False])]:
            for rest in (Rest(*told), Rest(*[tuple(row) for row in told])):
                for row in rest_fields(rest)[:4]:
                    self.assertIs(type(row), tuple)
                self.assertIs(type(rest.size), int)
                self.assertEqual({type(turn) for turn in rest.turned}, {bool})

    def test_by_the_names_of_the_arguments(self):
        rest = Rest(top=[0, 1], bottom=[1, 0], lengths=[2, 3], turned=[False, True])
        self.assertEqual(rest_fields(rest), ((0, 1), (1, 0), (2, 3), (False, True), 5))

    def test_lists_stay_and_are_not_kept(self):
        for told in great_told_rests() + drawn_told_rests()[:20]:
            handed = [list(row) for row in told]
            rest = Rest(*handed)
            self.assertEqual(handed, [list(row) for row in told])
            ahead = rest_fields(rest)
            for row in handed:
                row.reverse()
                row.append(0)
            self.assertEqual(rest_fields(rest), ahead)
            for row in handed:
                row.clear()
            self.assertEqual(rest_fields(rest), ahead)


class OfALine(unittest.TestCase):
    def test_a_line(self):
        rest = rest_of(Line([3, 1, 4], [2, 0, 1], [True, False, False]))
        self.assertIs(type(rest), Rest)
        self.assertEqual(rest_fields(rest), ((0, 1, 2), (2, 0, 1), (3, 1, 4), (True, False, False), 8))

    def test_many_lines(self):
        for lengths, order, turned in told_lines():
            line = Line(lengths, order, turned)
            asked = (tuple(range(len(lengths))), tuple(order), tuple(lengths), tuple(turned), sum(lengths))
            self.assertEqual(rest_fields(rest_of(line)), asked)
            self.assertEqual(rest_fields(rest_of(line=line)), asked)
            for row in rest_fields(rest_of(line))[:4]:
                self.assertIs(type(row), tuple)
            self.assertEqual((line.lengths, line.order, line.turned), asked[2:3] + asked[1:2] + asked[3:4])


class Going(unittest.TestCase):
    def test_a_rest(self):
        rest = Rest([2, 0], [0, 2], [3, 0, 4], [True, False, False])
        self.assertEqual([letter_at(rest, y) for y in range(7)], [2, 2, 2, 2, 0, 0, 0])
        self.assertEqual([rest_goes(rest, y) for y in range(7)], [3, 4, 5, 6, 2, 1, 0])

    def test_letters_that_are_gone_take_no_places(self):
        rest = Rest([4, 1], [1, 4], [0, 2, 0, 0, 1], [False] * 5)
        self.assertEqual([letter_at(rest, y) for y in range(3)], [4, 1, 1])
        self.assertEqual([rest_goes(rest, y) for y in range(3)], [2, 0, 1])

    def test_place_by_place(self):
        for rest in small_rests():
            top, bottom, lengths, turned, size = rest_fields(rest)
            self.assertEqual([letter_at(rest, y) for y in range(size)], letters_of(top, lengths))
            self.assertEqual([rest_goes(rest, y) for y in range(size)], gone_rows(top, bottom, lengths, turned))

    def test_ends_of_great_letters(self):
        for top, bottom, lengths, turned in great_told_rests():
            rest = Rest(top, bottom, lengths, turned)
            for letter in top:
                first = sum(lengths[other] for other in top[:top.index(letter)])
                laid = sum(lengths[other] for other in bottom[:bottom.index(letter)])
                last = lengths[letter] - 1
                for offset in sorted({0, min(1, last), last // 3, last // 2, max(last - 1, 0), last}):
                    self.assertEqual(letter_at(rest, first + offset), letter)
                    come = laid + (last - offset if turned[letter] else offset)
                    self.assertEqual(rest_goes(rest, first + offset), come)

    def test_the_rest_of_a_line_goes_as_the_line(self):
        for lengths, order, turned in told_lines():
            if sum(lengths) < 1000:
                rest = rest_of(Line(lengths, order, turned))
                gone = gone_rows(range(len(lengths)), order, lengths, turned)
                self.assertEqual([rest_goes(rest, y) for y in range(rest.size)], gone)

    def test_kinds_and_names_of_arguments(self):
        for told in great_told_rests():
            rest = Rest(*told)
            for y in (0, rest.size // 2, rest.size - 1):
                self.assertIs(type(letter_at(rest=rest, y=y)), int)
                self.assertIs(type(rest_goes(rest=rest, y=y)), int)

    def test_asking_changes_nothing(self):
        for told in great_told_rests():
            rest = Rest(*told)
            ahead = rest_fields(rest)
            y = rest.size - 1
            asked = (letter_at(rest, y), rest_goes(rest, y))
            self.assertEqual((letter_at(rest, y), rest_goes(rest, y)), asked)
            self.assertEqual(rest_fields(rest), ahead)


class Refused(unittest.TestCase):
    def refused(self, rest, y):
        for told_of in (letter_at, rest_goes):
            with self.assertRaises(Outside) as caught:
                told_of(rest, y)
            self.assertIs(type(caught.exception), Outside)

    def test_no_place_of_the_rest(self):
        for told in great_told_rests() + drawn_told_rests():
            rest = Rest(*told)
            for y in (-1, -2, -rest.size, -rest.size - 1, -10 ** 40):
                self.refused(rest, y)
            for y in (rest.size, rest.size + 1, 2 * rest.size, rest.size + 10 ** 40):
                self.refused(rest, y)

    def test_no_place_of_small_rests(self):
        for rest in small_rests():
            self.refused(rest, -1)
            self.refused(rest, rest.size)

    def test_a_rest_without_letters_has_no_place(self):
        for rest in (Rest([], [], [0, 0], [False, False]), Rest([], [], [], [])):
            for y in (-1, 0, 1, 10 ** 30):
                self.refused(rest, y)


if __name__ == "__main__":
    unittest.main()
