import unittest

from relaid.errors import BadLengths, BadOrder, BadTurned
from relaid.lines import Line
from samples import GREATEST, laid_out, small_told_lines, told_lines

ROWS = ("lengths", "order", "turned", "starts", "laid")


def fields(line):
    return tuple(getattr(line, name) for name in ROWS) + (line.size,)


class Fields(unittest.TestCase):
    def test_one_piece(self):
        self.assertEqual(fields(Line([1], [0])), ((1,), (0,), (False,), (0,), (0,), 1))
        self.assertEqual(fields(Line([9], [0], [True])), ((9,), (0,), (True,), (0,), (0,), 9))

    def test_a_few_pieces(self):
        line = Line([3, 1, 4, 2], [2, 0, 3, 1], [True, False, False, True])
        self.assertEqual(line.lengths, (3, 1, 4, 2))
        self.assertEqual(line.order, (2, 0, 3, 1))
        self.assertEqual(line.turned, (True, False, False, True))
        self.assertEqual(line.starts, (0, 3, 4, 8))
        self.assertEqual(line.laid, (4, 9, 0, 7))
        self.assertEqual(line.size, 10)

    def test_24_pieces(self):
        line = Line(list(range(1, 25)), list(range(23, -1, -1)), [True] + [False] * 23)
        self.assertEqual(line.starts, tuple(p * (p + 1) // 2 for p in range(24)))
        self.assertEqual(line.laid, tuple(300 - (p + 1) * (p + 2) // 2 for p in range(24)))
        self.assertEqual(line.turned, (True,) + (False,) * 23)
        self.assertEqual(line.size, 300)

    def test_great_lengths(self):
        line = Line([10 ** 29, 1, 8 * 10 ** 29, 5], [3, 2, 0, 1])
        self.assertEqual(line.starts, (0, 10 ** 29, 10 ** 29 + 1, 9 * 10 ** 29 + 1))
        self.assertEqual(line.laid, (8 * 10 ** 29 + 5, 9 * 10 ** 29 + 5, 5, 0))
        self.assertEqual(line.size, 9 * 10 ** 29 + 6)

    def test_a_size_of_just_the_greatest(self):
        self.assertEqual(Line([GREATEST], [0]).size, GREATEST)
        self.assertEqual(Line([1, GREATEST - 1], [1, 0]).laid, (GREATEST - 1, 0))
        self.assertEqual(Line([1] * 23 + [GREATEST - 23], list(range(24))).size, GREATEST)

    def test_all_fields_of_many_lines(self):
        for lengths, order, turned in told_lines() + small_told_lines():
            line = Line(lengths, order, turned)
            starts = tuple(sum(lengths[:p]) for p in range(len(lengths)))
            ahead = [list(order)[:list(order).index(p)] for p in range(len(lengths))]
            laid = tuple(sum(lengths[q] for q in pieces) for pieces in ahead)
            told = (tuple(lengths), tuple(order), tuple(turned), starts, laid, sum(lengths))
            self.assertEqual(fields(line), told)

    def test_laid_is_where_the_pieces_lie(self):
        for lengths, order, turned in small_told_lines():
            line = Line(lengths, order, turned)
            row = laid_out(lengths, order, turned)
            for piece, start in enumerate(line.starts):
                lies = [row.index(x) for x in range(start, start + lengths[piece])]
                self.assertEqual(min(lies), line.laid[piece])

    def test_kinds(self):
        for told in told_lines():
            for line in (Line(*told), Line(*map(tuple, told)), Line(told[0], told[1])):
                for name in ROWS:
                    self.assertIs(type(getattr(line, name)), tuple, name)
                    kind = bool if name == "turned" else int
                    self.assertEqual([type(one) for one in getattr(line, name)], [kind] * len(told[0]), name)
                self.assertIs(type(line.size), int)

    def test_lists_and_tuples_alike(self):
        for lengths, order, turned in told_lines():
            line = Line(lengths, order, turned)
            self.assertEqual(fields(line), fields(Line(tuple(lengths), tuple(order), tuple(turned))))
            self.assertEqual(fields(line), fields(Line(lengths, tuple(order), turned)))

    def test_by_the_names_of_the_arguments(self):
        line = Line(lengths=[2, 3], order=[1, 0], turned=[False, True])
        self.assertEqual(fields(line), ((2, 3), (1, 0), (False, True), (0, 2), (3, 0), 5))

    def test_turns_left_out_and_none(self):
        for lengths, order, _ in told_lines():
            straight = (False,) * len(lengths)
            self.assertEqual(Line(lengths, order).turned, straight)
            self.assertEqual(Line(lengths, order, None).turned, straight)
            self.assertEqual(fields(Line(lengths, order)), fields(Line(lengths, order, straight)))

    def test_turns_go_by_the_numbers_of_the_pieces(self):
        self.assertEqual(Line([1, 2, 3], [2, 0, 1], [True, False, False]).turned, (True, False, False))

    def test_no_method_but_the_making(self):
        held = [name for name in dir(Line([2, 3], [1, 0])) if not name.startswith("__")]
        self.assertEqual([name for name in held if callable(getattr(Line([2, 3], [1, 0]), name))], [])


class HandedIn(unittest.TestCase):
    def test_lists_stay_as_they_were(self):
        for lengths, order, turned in told_lines():
            handed = (list(lengths), list(order), list(turned))
            Line(*handed)
            self.assertEqual(handed, (lengths, order, turned))

    def test_refused_lists_stay_as_they_were(self):
        for told in (([2, 0], [1, 0], [True, False]), ([2, 1], [1, 1], [True, False]), ([2, 1], [1, 0], [True])):
            handed = tuple(list(row) for row in told)
            with self.assertRaises(ValueError):
                Line(*handed)
            self.assertEqual(handed, told)

    def test_a_line_stays_when_a_list_is_changed_behind(self):
        for lengths, order, turned in told_lines():
            handed = (list(lengths), list(order), list(turned))
            line = Line(*handed)
            ahead = fields(line)
            handed[0][0] += 1
            handed[1].reverse()
            handed[2][0] = not handed[2][0]
            for row in handed:
                row.append(0)
            self.assertEqual(fields(line), ahead)
            for row in handed:
                row.clear()
            self.assertEqual(fields(line), ahead)

    def test_a_line_stays_when_another_one_is_made(self):
        line = Line([3, 1], [1, 0], [True, False])
        ahead = fields(line)
        Line([5, 6, 7], [2, 1, 0])
        Line([1, 1], [0, 1])
        self.assertEqual(fields(line), ahead)

    def test_the_same_again(self):
        for told in told_lines():
            self.assertEqual(fields(Line(*told)), fields(Line(*told)))


class Refused(unittest.TestCase):
    def refused(self, refusal, *told):
        """Refused, told as lists and as tuples, with that very class."""
        for kind in (list, tuple):
            with self.assertRaises(refusal) as caught:
                Line(*[row if row is None else kind(row) for row in told])
            self.assertIs(type(caught.exception), refusal)

    def test_no_piece(self):
        self.refused(BadLengths, [], [])
        self.refused(BadLengths, [], [], [])
        self.refused(BadLengths, [], [], None)

    def test_too_many_pieces(self):
        for pieces in (25, 26, 48, 300):
            self.refused(BadLengths, [1] * pieces, range(pieces))
            self.refused(BadLengths, [3] * pieces, range(pieces), [True] * pieces)

    def test_a_length_below_1_at_any_place(self):
        for pieces in (1, 2, 5, 24):
            for at in range(pieces):
                for length in (0, -1, -7, -10 ** 40):
                    lengths = [4] * pieces
                    lengths[at] = length
                    self.refused(BadLengths, lengths, range(pieces))

    def test_a_length_below_1_where_the_size_is_right(self):
        self.refused(BadLengths, [GREATEST, 0], [0, 1])
        self.refused(BadLengths, [GREATEST + 1, -1], [0, 1])

    def test_too_great_a_size(self):
        self.refused(BadLengths, [GREATEST + 1], [0])
        self.refused(BadLengths, [GREATEST, 1], [0, 1])
        self.refused(BadLengths, [1, GREATEST], [1, 0])
        self.refused(BadLengths, [1] * 23 + [GREATEST - 22], range(24))
        self.refused(BadLengths, [GREATEST // 2, 1, GREATEST // 2], [2, 0, 1])
        self.refused(BadLengths, [10 ** 1000], [0])

    def test_a_number_told_twice(self):
        for order in ([0, 0], [1, 1]):
            self.refused(BadOrder, [3, 2], order)
        for order in ([1, 1, 1], [0, 1, 1], [0, 0, 2], [2, 2, 0]):
            self.refused(BadOrder, [3, 2, 4], order)
        for at in range(23):
            self.refused(BadOrder, [1] * 24, [at + 1 if p == at else p for p in range(24)])

    def test_a_number_left_out(self):
        self.refused(BadOrder, [3], [])
        for order in ([0, 1], [0, 2], [2, 1], []):
            self.refused(BadOrder, [3, 2, 4], order)
        self.refused(BadOrder, [1] * 24, range(23))

    def test_one_more(self):
        self.refused(BadOrder, [3], [0, 0])
        self.refused(BadOrder, [3], [0, 1])
        self.refused(BadOrder, [3, 2], [0, 1, 1])
        self.refused(BadOrder, [3, 2], [1, 0, 2])
        self.refused(BadOrder, [1] * 24, range(25))

    def test_one_below_0(self):
        self.refused(BadOrder, [3], [-1])
        self.refused(BadOrder, [3, 2], [0, -1])
        self.refused(BadOrder, [3, 2, 4], [-3, 1, 2])
        self.refused(BadOrder, [3, 2, 4], [-1, -2, -3])
        self.refused(BadOrder, [3, 2], [-10 ** 6000, 0])

    def test_one_that_is_no_pieces(self):
        self.refused(BadOrder, [3], [1])
        self.refused(BadOrder, [3, 2], [1, 2])
        self.refused(BadOrder, [3, 2, 4], [0, 3, 1])
        self.refused(BadOrder, [3, 2, 4], [0, 0, 3])
        for great in (10 ** 18, 10 ** 40, 2 ** 64, 10 ** 6000):
            self.refused(BadOrder, [3, 2], [0, great])
            self.refused(BadOrder, [3, 2], [great, 1])

    def test_too_few_and_too_many_turns(self):
        for pieces in (1, 2, 5, 24):
            for turns in (0, pieces - 1, pieces + 1, 2 * pieces):
                self.refused(BadTurned, [3] * pieces, range(pieces), [False] * turns)
                self.refused(BadTurned, [3] * pieces, range(pieces), [True] * turns)

    def test_lengths_ahead_of_order_ahead_of_turns(self):
        wrong_lengths = ([], [1] * 25, [0, 2], [2, -1], [GREATEST, 1])
        for lengths in wrong_lengths:
            right = range(len(lengths))
            wrong = [1] * len(lengths) + [99]
            self.refused(BadLengths, lengths, wrong)
            self.refused(BadLengths, lengths, right, [True] * (len(lengths) + 1))
            self.refused(BadLengths, lengths, wrong, [True] * (len(lengths) + 1))
        for order in ([0, 0], [0], [0, 1, 2], [-1, 0], [0, 10 ** 40]):
            for turns in ([], [True], [False] * 3):
                self.refused(BadOrder, [3, 2], order, turns)


if __name__ == "__main__":
    unittest.main()
