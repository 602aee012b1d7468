import unittest

from relaid.errors import Outside
from relaid.going import comes, goes, piece_at
from relaid.lines import Line
from samples import GREATEST, laid_out, small_lines, told_lines


def places_of(line, piece):
    """The first and the last place of a piece, and some between."""
    start, length = line.starts[piece], line.lengths[piece]
    offsets = {0, 1, 2, length // 3, length // 2, length - 2, length - 1}
    return sorted(start + offset for offset in offsets if 0 <= offset < length)


def gone(lengths, order, turned, piece, x):
    """Where a place of a piece goes, by the words of 1.4 alone."""
    behind = x - sum(lengths[:piece])
    first = sum(lengths[p] for p in order[:order.index(piece)])
    last = first + lengths[piece] - 1
    return last - behind if turned[piece] else first + behind


class Told(unittest.TestCase):
    def test_a_line_without_turns(self):
        line = Line([3, 1, 4], [2, 0, 1])
        self.assertEqual([piece_at(line, x) for x in range(8)], [0, 0, 0, 1, 2, 2, 2, 2])
        self.assertEqual([goes(line, x) for x in range(8)], [4, 5, 6, 7, 0, 1, 2, 3])
        self.assertEqual([comes(line, x) for x in range(8)], [4, 5, 6, 7, 0, 1, 2, 3])

    def test_a_line_that_is_no_exchange_of_halves(self):
        line = Line([2, 3, 1], [2, 0, 1])
        self.assertEqual([goes(line, x) for x in range(6)], [1, 2, 3, 4, 5, 0])
        self.assertEqual([comes(line, x) for x in range(6)], [5, 0, 1, 2, 3, 4])

    def test_a_line_with_turns(self):
        line = Line([3, 1, 4], [2, 0, 1], [True, False, True])
        self.assertEqual([piece_at(line, x) for x in range(8)], [0, 0, 0, 1, 2, 2, 2, 2])
        self.assertEqual([goes(line, x) for x in range(8)], [6, 5, 4, 7, 3, 2, 1, 0])
        self.assertEqual([comes(line, x) for x in range(8)], [7, 6, 5, 4, 2, 1, 0, 3])

    def test_one_piece(self):
        self.assertEqual([goes(Line([4], [0]), x) for x in range(4)], [0, 1, 2, 3])
        self.assertEqual([comes(Line([4], [0]), x) for x in range(4)], [0, 1, 2, 3])
        self.assertEqual([goes(Line([4], [0], [True]), x) for x in range(4)], [3, 2, 1, 0])
        self.assertEqual([comes(Line([4], [0], [True]), x) for x in range(4)], [3, 2, 1, 0])
        self.assertEqual(goes(Line([1], [0], [True]), 0), 0)

    def test_a_great_line(self):
        line = Line([1, GREATEST - 2, 1], [1, 2, 0], [False, True, False])
        last = GREATEST - 1
        self.assertEqual([goes(line, x) for x in (0, 1, 2, last - 1, last)], [last, last - 2, last - 3, 0, last - 1])
        self.assertEqual([comes(line, x) for x in (0, 1, last - 2, last - 1, last)], [last - 1, last - 2, 1, last, 0])
        self.assertEqual([piece_at(line, x) for x in (0, 1, last - 1, last)], [0, 1, 1, 2])

    def test_a_turned_line_of_the_greatest_size(self):
        line = Line([GREATEST], [0], [True])
        for x in (0, 1, 123456789, GREATEST // 2, GREATEST - 1):
            self.assertEqual(goes(line, x), GREATEST - 1 - x)
            self.assertEqual(comes(line, x), GREATEST - 1 - x)


class PlaceByPlace(unittest.TestCase):
    def test_pieces(self):
        for line in small_lines():
            pieces = []
            for piece, length in enumerate(line.lengths):
                pieces.extend([piece] * length)
            self.assertEqual([piece_at(line, x) for x in range(line.size)], pieces)

    def test_goes_and_comes(self):
        for line in small_lines():
            row = laid_out(line.lengths, line.order, line.turned)
            self.assertEqual([comes(line, y) for y in range(line.size)], row)
            self.assertEqual([goes(line, x) for x in row], list(range(line.size)))

    def test_each_goes_to_one_place_and_one_goes_to_each(self):
        for line in small_lines():
            self.assertEqual(sorted(goes(line, x) for x in range(line.size)), list(range(line.size)))
            self.assertEqual(sorted(comes(line, x) for x in range(line.size)), list(range(line.size)))


class PieceByPiece(unittest.TestCase):
    def test_first_and_last_places_and_some_between(self):
        for lengths, order, turned in told_lines():
            line = Line(lengths, order, turned)
            for piece in range(len(lengths)):
                for x in places_of(line, piece):
                    y = gone(lengths, order, turned, piece, x)
                    self.assertEqual(piece_at(line, x), piece)
                    self.assertEqual(goes(line, x), y)
                    self.assertEqual(comes(line, y), x)

    def test_there_and_back(self):
        for told in told_lines():
            line = Line(*told)
            for piece in range(len(line.lengths)):
                for x in places_of(line, piece):
                    self.assertEqual(comes(line, goes(line, x)), x)
                    self.assertEqual(goes(line, comes(line, x)), x)

    def test_turns_left_out(self):
        for lengths, order, _ in told_lines():
            line = Line(lengths, order)
            straight = [False] * len(lengths)
            for piece in range(len(lengths)):
                for x in places_of(line, piece):
                    self.assertEqual(goes(line, x), gone(lengths, order, straight, piece, x))

    def test_kinds(self):
        for told in told_lines():
            line = Line(*told)
            for x in (0, line.size // 2, line.size - 1):
                for told_of in (piece_at, goes, comes):
                    self.assertIs(type(told_of(line, x)), int)

    def test_by_the_names_of_the_arguments(self):
        line = Line([3, 1, 4], [2, 0, 1])
        self.assertEqual([piece_at(line=line, x=3), goes(line=line, x=3), comes(line=line, x=3)], [1, 7, 7])

    def test_asking_changes_nothing(self):
        for told in told_lines():
            line = Line(*told)
            ahead = (line.lengths, line.order, line.turned, line.starts, line.laid, line.size)
            x = line.size - 1
            first = [piece_at(line, x), goes(line, x), comes(line, x)]
            self.assertEqual([piece_at(line, x), goes(line, x), comes(line, x)], first)
            self.assertEqual((line.lengths, line.order, line.turned, line.starts, line.laid, line.size), ahead)


class Refused(unittest.TestCase):
    def refused(self, line, x):
        for told_of in (piece_at, goes, comes):
            with self.assertRaises(Outside) as caught:
                told_of(line, x)
            self.assertIs(type(caught.exception), Outside)

    def test_no_place_of_the_line(self):
        for told in told_lines():
            line = Line(*told)
            for x in (-1, -2, -line.size, -line.size - 1, -10 ** 40, -10 ** 1000):
                self.refused(line, x)
            for x in (line.size, line.size + 1, 2 * line.size, line.size + 10 ** 40, 10 ** 1000):
                self.refused(line, x)

    def test_refused_for_all_small_lines(self):
        for line in small_lines():
            self.refused(line, -1)
            self.refused(line, line.size)


if __name__ == "__main__":
    unittest.main()
