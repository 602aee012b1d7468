import unittest

from relaid.errors import BadLengths, BadOrder, BadText
from relaid.lines import Line
from relaid.texts import read, written
from samples import GREATEST, drawn_told_lines, small_told_lines, told_lines

FIRST = "pieces 3 1 4\n"
SECOND = "laid 2 0- 1\n"

NO_NUMBERS = ("01", "00", "007", "+1", "-1", "-0", "+0", "--1", "1+", "1--", "0--", "2---", "-", "--", "+", "-1-",
              "1-2", "1_0", "_1", "1_", "a", "1a", "a1", "0x1", "1e1", "1.0", "1.", "1,", "1,2", "#1", "~", "1/1",
              "(1)", "00-", "01-", "+1-", "1_0-", "x-", "1+-", "O", "l", ":", "1:", "/", "'1'", "None", "True")


def row(word, words):
    return " ".join([word] + [str(one) for one in words]) + "\n"


def text_of(lengths, order, turned):
    """The text of a line, by the words of 2.1 alone."""
    return row("pieces", lengths) + row("laid", [f"{p}-" if turned[p] else f"{p}" for p in order])


def all_told():
    return told_lines() + small_told_lines() + drawn_told_lines(24, 10 ** 28, 40)


class Written(unittest.TestCase):
    def test_one_piece(self):
        self.assertEqual(written(Line([1], [0])), "pieces 1\nlaid 0\n")
        self.assertEqual(written(Line([10], [0], [True])), "pieces 10\nlaid 0-\n")
        self.assertEqual(written(Line([GREATEST], [0])), "pieces 1000000000000000000000000000000\nlaid 0\n")

    def test_a_few_pieces(self):
        self.assertEqual(written(Line([3, 1, 4], [2, 0, 1])), "pieces 3 1 4\nlaid 2 0 1\n")
        self.assertEqual(written(Line([3, 1, 4], [2, 0, 1], [True, False, True])), "pieces 3 1 4\nlaid 2- 0- 1\n")
        self.assertEqual(written(Line([2, 3], [1, 0], [True, True])), "pieces 2 3\nlaid 1- 0-\n")

    def test_turns_go_by_the_numbers_of_the_pieces(self):
        self.assertEqual(written(Line([5, 6, 7], [1, 2, 0], [True, False, False])), "pieces 5 6 7\nlaid 1 2 0-\n")
        self.assertEqual(written(Line([5, 6, 7], [1, 2, 0], [False, True, False])), "pieces 5 6 7\nlaid 1- 2 0\n")

    def test_24_pieces(self):
        line = Line(list(range(1, 25)), list(range(23, -1, -1)), [p >= 22 for p in range(24)])
        told = ("pieces 1 2 3 4 5 6 7 8 9 10 11 12 13 14 15 16 17 18 19 20 21 22 23 24\n"
                "laid 23- 22- 21 20 19 18 17 16 15 14 13 12 11 10 9 8 7 6 5 4 3 2 1 0\n")
        self.assertEqual(written(line), told)

    def test_great_lengths(self):
        line = Line([1, GREATEST - 2, 1], [1, 2, 0], [False, True, False])
        self.assertEqual(written(line), "pieces 1 " + "9" * 29 + "8 1\nlaid 1- 2 0\n")

    def test_many_lines(self):
        for told in all_told():
            text = written(Line(*told))
            self.assertEqual(text, text_of(*told))
            self.assertIs(type(text), str)

    def test_by_the_name_of_the_argument(self):
        self.assertEqual(written(line=Line([2], [0])), "pieces 2\nlaid 0\n")

    def test_asking_changes_nothing(self):
        line = Line([3, 1, 4], [2, 0, 1], [True, False, True])
        self.assertEqual(written(line), written(line))
        self.assertEqual((line.lengths, line.order, line.turned), ((3, 1, 4), (2, 0, 1), (True, False, True)))


class Read(unittest.TestCase):
    def test_a_text(self):
        line = read("pieces 3 1 4\nlaid 2 0- 1\n")
        self.assertIs(type(line), Line)
        self.assertEqual((line.lengths, line.order, line.turned), ((3, 1, 4), (2, 0, 1), (True, False, False)))
        self.assertEqual((line.starts, line.laid, line.size), ((0, 3, 4), (4, 7, 0), 8))

    def test_one_piece(self):
        line = read("pieces 1\nlaid 0-\n")
        self.assertEqual((line.lengths, line.order, line.turned, line.size), ((1,), (0,), (True,), 1))

    def test_numbers_of_31_figures(self):
        self.assertEqual(read(f"pieces {GREATEST}\nlaid 0\n").lengths, (GREATEST,))
        self.assertEqual(read(f"pieces {GREATEST}\nlaid 0-\n").turned, (True,))

    def test_pieces_of_two_figures(self):
        line = read(row("pieces", [1] * 24) + row("laid", ["11-", "1"] + [p for p in range(24) if p not in (1, 11)]))
        self.assertEqual(line.turned, tuple(p == 11 for p in range(24)))
        line = read(row("pieces", [1] * 24) + row("laid", ["11", "1-"] + [p for p in range(24) if p not in (1, 11)]))
        self.assertEqual(line.turned, tuple(p == 1 for p in range(24)))

    def test_what_is_written_is_read_to_the_same_line(self):
        for told in all_told():
            line = read(text_of(*told))
            self.assertEqual((line.lengths, line.order, line.turned), tuple(tuple(rows) for rows in told))
            self.assertEqual(line.size, sum(told[0]))
            for rows, kind in ((line.lengths, int), (line.order, int), (line.turned, bool)):
                self.assertIs(type(rows), tuple)
                self.assertEqual({type(one) for one in rows}, {kind})

    def test_what_was_read_is_written_as_the_same_text(self):
        for told in all_told():
            text = text_of(*told)
            self.assertEqual(written(read(text)), text)

    def test_by_the_name_of_the_argument(self):
        self.assertEqual(read(text="pieces 2\nlaid 0\n").lengths, (2,))

    def test_the_same_again(self):
        text = FIRST + SECOND
        self.assertEqual(written(read(text)), written(read(text)))


class Refused(unittest.TestCase):
    def refused(self, at, text):
        with self.assertRaises(BadText, msg=text) as caught:
            read(text)
        self.assertIs(type(caught.exception), BadText)
        self.assertEqual(caught.exception.at, at, text)
        self.assertIs(type(caught.exception.at), int)

    def wrong_first(self, first):
        """A wrong first row is told whatever stands behind it."""
        for behind in ("", SECOND, "laid", "x\n", SECOND + "\n", FIRST + SECOND):
            self.refused(1, first + "\n" + behind)
        self.refused(1, first)

    def wrong_second(self, second):
        """A wrong second row is told whatever stands behind it, and ahead of what the lengths are refused for."""
        for first in (FIRST, "pieces\n", "pieces 0\n", row("pieces", [1] * 25)):
            for behind in ("", "x", "\n", SECOND):
                self.refused(2, first + second + "\n" + behind)
            self.refused(2, first + second)

    def test_an_empty_text(self):
        self.refused(1, "")

    def test_rows_that_lack(self):
        self.refused(2, FIRST)
        self.refused(2, "pieces\n")
        self.refused(2, "pieces 0\n")
        self.refused(2, f"pieces {GREATEST + 1}\n")

    def test_rows_that_are_not_ended(self):
        self.refused(1, "pieces")
        self.refused(1, "pieces 3 1 4")
        self.refused(1, "p")
        self.refused(2, FIRST + "laid 2 0- 1")
        self.refused(2, FIRST + "laid")
        self.refused(2, FIRST + "l")
        self.refused(2, "pieces\nlaid")

    def test_rows_behind_the_second_one(self):
        for behind in ("\n", "\n\n", " ", " \n", "x", "x\n", FIRST, SECOND, "laid", SECOND + SECOND, FIRST + SECOND,
                       "\n" * 50, "-", "0"):
            self.refused(3, FIRST + SECOND + behind)
            self.refused(3, "pieces\nlaid\n" + behind)
            self.refused(3, "pieces 0\nlaid 0\n" + behind)
            self.refused(3, "pieces 1\nlaid 1\n" + behind)

    def test_empty_rows(self):
        self.refused(1, "\n")
        self.refused(1, "\n\n")
        self.refused(1, "\n" + FIRST + SECOND)
        self.refused(1, "\n\n" + FIRST + SECOND)
        self.refused(2, FIRST + "\n")
        self.refused(2, FIRST + "\n\n")
        self.refused(2, FIRST + "\n" + SECOND)

    def test_rows_changed_about_and_told_twice(self):
        self.refused(1, SECOND + FIRST)
        self.refused(1, SECOND)
        self.refused(1, "laid 0\npieces 1\n")
        self.refused(1, SECOND + SECOND)
        self.refused(2, FIRST + FIRST)
        self.refused(2, "pieces 1\npieces 1\n")

    def test_rows_that_run_together(self):
        self.refused(1, "pieces 1 laid 0\n")
        self.refused(1, "pieces 3 1 4 laid 2 0- 1\n\n")

    def test_first_words_written_otherwise(self):
        for word in ("", "piece", "Pieces", "PIECES", "piecess", "xpieces", "-pieces", "+pieces", " pieces", "pieces-",
                     "pieces:", "pieces,", "#pieces", "laid", "lengths", "0", "pieces1", "p ieces"):
            self.wrong_first(word + " 3 1 4")
        for word in ("pieces:", "pieces-", "xpieces", "", "pieces3"):
            self.wrong_first(word)
        for word in ("", "lai", "Laid", "LAID", "laidd", "xlaid", "-laid", "+laid", " laid", "laid-", "laid:", "#laid",
                     "pieces", "order", "0", "laid2", "l aid"):
            self.wrong_second(word + " 2 0- 1")
        for word in ("laid:", "laid-", "xlaid", "", "laid2"):
            self.wrong_second(word)

    def test_blanks(self):
        for first in (" pieces 3 1 4", "pieces  3 1 4", "pieces 3  1 4", "pieces 3 1  4", "pieces 3 1 4 ", "pieces ",
                      "pieces  ", "  pieces 3", "pieces 3   1", " ", "  ", " pieces"):
            self.wrong_first(first)
        for second in (" laid 2 0 1", "laid  2 0 1", "laid 2  0 1", "laid 2 0  1", "laid 2 0 1 ", "laid ", "laid  ",
                       "  laid 2", "laid 2 - 0 1", "laid 2 0 -1", "laid 2 0- 1 ", " ", "  ", " laid"):
            self.wrong_second(second)

    def test_words_that_are_no_numbers(self):
        for word in NO_NUMBERS + ("0-", "1-", "10-", "3-"):
            self.wrong_first("pieces " + word)
            self.wrong_first("pieces 3 " + word + " 4")
            self.wrong_first("pieces 3 1 " + word)
        for word in NO_NUMBERS:
            self.wrong_second("laid " + word)
            self.wrong_second("laid 2 " + word + " 1")
            self.wrong_second("laid 2 0- " + word)

    def test_numbers_of_too_many_figures(self):
        for figures in (32, 33, 60, 1000, 4299, 4300, 4301, 4900):
            for number in ("1" * figures, "9" * figures, "1" + "0" * (figures - 1), "0" * figures):
                self.refused(1, "pieces " + number + "\n" + SECOND)
                self.refused(1, "pieces 3 1 " + number + "\nlaid")
                self.refused(1, "pieces " + number)
                self.refused(2, FIRST + "laid " + number + "\n")
                self.refused(2, FIRST + "laid " + number + "-\n")
                self.refused(2, FIRST + "laid 2 0- " + number + "\n\n")
                self.refused(2, FIRST + "laid 2 0- 1 " + number)

    def test_the_first_wrong_row_is_told(self):
        self.refused(1, "pieces 01\nlaid 00\n\n")
        self.refused(1, "pieces 01\nlaid 0")
        self.refused(2, "pieces 1\nlaid 00\nx")
        self.refused(1, "x\ny\nz\n")


class RefusedByTheLine(unittest.TestCase):
    def refused(self, refusal, text):
        with self.assertRaises(refusal, msg=text) as caught:
            read(text)
        self.assertIs(type(caught.exception), refusal)

    def test_no_numbers(self):
        self.refused(BadLengths, "pieces\nlaid\n")
        self.refused(BadLengths, "pieces\nlaid 0\n")
        self.refused(BadLengths, "pieces\nlaid 0-\n")

    def test_too_many_numbers(self):
        for pieces in (25, 26, 100, 500):
            self.refused(BadLengths, row("pieces", [1] * pieces) + row("laid", range(pieces)))
            self.refused(BadLengths, row("pieces", [1] * pieces) + row("laid", [f"{p}-" for p in range(pieces)]))
            self.refused(BadLengths, row("pieces", [1] * pieces) + "laid\n")

    def test_lengths(self):
        self.refused(BadLengths, "pieces 0\nlaid 0\n")
        self.refused(BadLengths, "pieces 3 0 4\nlaid 2 0- 1\n")
        self.refused(BadLengths, f"pieces {GREATEST + 1}\nlaid 0\n")
        self.refused(BadLengths, f"pieces {GREATEST} 1\nlaid 0 1\n")
        self.refused(BadLengths, "pieces " + "9" * 31 + "\nlaid 0\n")

    def test_orders(self):
        for laid in ("laid", "laid 0", "laid 2 0", "laid 2 0 1 1", "laid 2 0 1 3", "laid 0 0 1", "laid 0 0- 1",
                     "laid 0- 0 1", "laid 0 1 3", "laid 1 2 3", "laid 1- 2- 3-", "laid 0 1 10", "laid 0 1 2 0-"):
            self.refused(BadOrder, "pieces 3 1 4\n" + laid + "\n")
        self.refused(BadOrder, row("pieces", [1] * 24) + row("laid", range(25)))
        self.refused(BadOrder, row("pieces", [1] * 24) + row("laid", range(23)))
        self.refused(BadOrder, row("pieces", [1] * 24) + row("laid", [f"{p}-" for p in range(1000)]))

    def test_numbers_of_31_figures(self):
        for number in ("9" * 31, str(GREATEST), "1" * 31):
            for laid in (number, number + "-"):
                self.refused(BadOrder, f"pieces 1\nlaid {laid}\n")
                self.refused(BadOrder, f"pieces 3 1 4\nlaid 2 0- {laid}\n")
                self.refused(BadOrder, f"pieces 3 1 4\nlaid 2 0 1 {laid}\n")

    def test_lengths_ahead_of_order(self):
        for first in ("pieces", "pieces 0", "pieces 0 1", f"pieces {GREATEST} 1", row("pieces", [2] * 25).strip("\n")):
            for second in ("laid", "laid 7", "laid 0 0", "laid 0- 0", "laid " + "9" * 31 + "-"):
                self.refused(BadLengths, first + "\n" + second + "\n")


if __name__ == "__main__":
    unittest.main()
