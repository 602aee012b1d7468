import unittest
from random import Random

from relaid.addresses import address, place
from relaid.charts import Chart
from relaid.desk import Desk
from relaid.errors import BadLengths, BadOrder, BadRow, BadText
from relaid.lines import Line
from relaid.papers import paper_of
from relaid.rounds import after, between, round_length, rounds
from relaid.texts import read, written
from relaid.visits import visits
from samples import (FARTHEST, GREATEST, Timed, drawn_told_lines, full_told_lines, gone_by, great_lines, line_fields,
                     piece_ends, round_of, small_told_lines, telling_places, told_lines, walked_lines)

TOLD = "pieces 3 1 4\nlaid 2- 0- 1\n"

# Rows that are good on a desk of TOLD.
GOOD_DEEDS = ("cut 1", "turn 0", "lay 2 2", "long 1 9")
GOOD_QUESTIONS = ("goes 1 5", "goes 1 -5", "round 1", "address 1", "visits 1 5", "between 1 2", "place 0 0 0", "rounds",
                  "bands", "paper")

NO_NUMBERS = ("", "00", "01", "-1", "-0", "-", "--1", "+1", "+0", "1-", "0-", "1.", "1.0", "1,", "x", "1x", "0x1",
              "1e1", "1_0", "one", "none", "1/1", "(1)", "'1'", "\"1\"", "9" * 62, "1" + "0" * 61, "0" * 61,
              "0" + "1" * 60, "9" * 290)

OTHER_ROWS = ("", " ", "  ", "1", "0 1", "-1", "x", "cut", "turn", "lay", "long", "lay 1", "long 1", "cut 1 2",
              "turn 1 0", "lay 1 1 1", "long 1 1 1", "back 1", "back 0", "back back", " back", "back ", "Back", "BACK",
              "bac", "backs", "undo", "cuts 1", "cut1", "cut,1", "cut:1", "cut-1", "Cut 1", "CUT 1", "turned 1",
              "laid 1 1", "longs 1 1", "length 1 1", "cut X", "turn P", "do cut 1", "cut 1 cut 2", "cut 1;cut 2",
              "goes", "goes 1", "goes 1 1 1", "goes 1 1 -1", "round", "round 1 1", "address", "address 1 1", "visits",
              "visits 1", "visits 1 1 1", "between", "between 1", "between 1 1 1", "place", "place 0", "place 0 0",
              "place 0 0 0 0", "rounds 1", "rounds 0", "bands 0", "paper 0", "rounds rounds", "rounds bands", " rounds",
              "rounds ", "Rounds", "band", "papers", "visit 1 1", "go 1 1", "comes 1 1", "after 1 1", "text", "left",
              "written", "pieces 3 1 4", "laid 2- 0- 1", "~", "!", "#" * 300, "cut " * 75, "~" * 300)


def wrong_blanks(row):
    """The row with a blank more: ahead, behind, and between each two words; and with one blank less."""
    words = row.split(" ")
    told = [" " + row, row + " ", "  " + row, row + "  "]
    for at in range(1, len(words)):
        told.append(" ".join(words[:at]) + "  " + " ".join(words[at:]))
        told.append(" ".join(words[:at]) + "".join(words[at:]))
    return told


def wrong_words(row):
    """The row with a word more or less, or with one of its numbers written wrongly."""
    words = row.split(" ")
    told = [row + " 0", row + " 1", row + " x", row + " " + words[0], "x " + row, "0 " + row]
    for at in range(1, len(words)):
        told.append(" ".join(words[:at] + words[at + 1:]))
        for wrong in NO_NUMBERS:
            if (words[0], at, wrong) != ("goes", 2, "-1"):
                told.append(" ".join(words[:at] + [wrong] + words[at + 1:]))
    return told


def desk_of(line):
    return Desk(written(line))


class Held(Timed):
    """What the tests of the desk share."""

    def refused_row(self, desk, asked, row):
        """Refused as told, the desk staying as it was."""
        before = (desk.text(), desk.left())
        with self.assertRaises(BadRow) as caught:
            asked(row)
        self.assertIs(type(caught.exception), BadRow)
        self.assertEqual(caught.exception.at, before[1] + 1, row)
        self.assertIs(type(caught.exception.at), int)
        self.assertEqual((desk.text(), desk.left()), before, row)

    def does(self, desk, row):
        """Done, as one deed more that can be taken back, and read again; tells the line behind it."""
        ahead = desk.left()
        self.assertIsNone(desk.do(row))
        self.assertEqual(desk.left(), ahead + 1)
        line = read(desk.text())
        self.assertEqual(written(line), desk.text())
        return line

    def takes_back(self, desk, text, left):
        self.assertIsNone(desk.do("back"))
        self.assertEqual((desk.text(), desk.left()), (text, left))


class Making(Held):
    def test_told(self):
        desk = Desk(TOLD)
        self.assertEqual((desk.text(), desk.left()), (TOLD, 0))
        self.assertEqual(Desk(text="pieces 1\nlaid 0-\n").text(), "pieces 1\nlaid 0-\n")

    def test_each_line(self):
        for told in told_lines() + small_told_lines() + full_told_lines():
            text = written(Line(*told))
            desk = Desk(text)
            self.assertEqual((desk.text(), desk.left()), (text, 0))
            self.assertEqual((type(desk.text()), type(desk.left())), (str, int))

    def test_texts_that_write_no_line(self):
        for text, at in (("", 1), ("\n", 1), ("pieces 1", 1), ("laid 0\n", 1), ("pieces 01\nlaid 0\n", 1),
                         ("pieces 1\n", 2), ("pieces 1\nlaid 0", 2), ("pieces 1\nlaid  0\n", 2),
                         ("pieces 1\nback\n", 2), ("pieces 1\nlaid 0\n\n", 3), ("pieces 1\nlaid 0\ncut 0\n", 3),
                         ("pieces 1\nlaid 0\nback", 3)):
            with self.assertRaises(BadText) as caught:
                Desk(text)
            self.assertEqual(caught.exception.at, at)
        for text in ("pieces\nlaid\n", "pieces 0\nlaid 0\n", f"pieces {GREATEST + 1}\nlaid 0\n",
                     "pieces" + " 1" * 25 + "\nlaid 0\n"):
            self.refused(BadLengths, Desk, text)
        for text in ("pieces 1\nlaid\n", "pieces 1\nlaid 1\n", "pieces 1 1\nlaid 0 0-\n"):
            self.refused(BadOrder, Desk, text)

    def test_two_desks(self):
        one, two = Desk(TOLD), Desk(TOLD)
        one.do("turn 0")
        one.do("long 1 7")
        two.do("cut 6")
        self.assertEqual((one.text(), one.left()), ("pieces 3 7 4\nlaid 2- 0 1\n", 2))
        self.assertEqual((two.text(), two.left()), ("pieces 3 1 2 2\nlaid 3- 2- 0- 1\n", 1))


class Cut(Held):
    def cut_at(self, line, x):
        """Cut there, the going staying; tells the line behind it."""
        piece = max(piece for piece, start in enumerate(line.starts) if start <= x)
        behind = self.does(desk_of(line), f"cut {x}")
        self.assertEqual(behind.starts, tuple(sorted(line.starts + (x,))))
        self.assertEqual(behind.size, line.size)
        turned = line.turned[piece]
        self.assertEqual(behind.turned, line.turned[:piece] + (turned, turned) + line.turned[piece + 1:])
        first, second = behind.laid[piece], behind.laid[piece + 1]
        begin, end = line.laid[piece], line.laid[piece] + line.lengths[piece]
        self.assertEqual((first, second), (end - behind.lengths[piece], begin) if turned
                         else (begin, begin + behind.lengths[piece]))
        others = [old for old in range(len(line.lengths)) if old != piece]
        self.assertEqual([behind.laid[old + (old > piece)] for old in others], [line.laid[old] for old in others])
        return behind

    def test_told(self):
        desk = Desk(TOLD)
        for row, text in (("cut 1", "pieces 1 2 1 4\nlaid 3- 1- 0- 2\n"),
                          ("cut 7", "pieces 1 2 1 3 1\nlaid 4- 3- 1- 0- 2\n"),
                          ("cut 2", "pieces 1 1 1 1 3 1\nlaid 5- 4- 2- 1- 0- 3\n")):
            self.assertIsNone(desk.do(row))
            self.assertEqual(desk.text(), text)
        desk = Desk("pieces 2 5\nlaid 1 0-\n")
        desk.do("cut 3")
        desk.do("cut 1")
        self.assertEqual(desk.text(), "pieces 1 1 1 4\nlaid 2 3 1- 0-\n")

    def test_each_place(self):
        for line in walked_lines():
            desk = desk_of(line)
            for x in range(line.size):
                if x in line.starts or len(line.lengths) == 24:
                    self.refused_row(desk, desk.do, f"cut {x}")
                else:
                    self.assertEqual(gone_by(self.cut_at(line, x)), gone_by(line))
            for x in (line.size, line.size + 1, 2 * line.size, GREATEST, FARTHEST):
                self.refused_row(desk, desk.do, f"cut {x}")

    def test_great_lines(self):
        draw = Random(121)
        for line in great_lines():
            desk = desk_of(line)
            for x in piece_ends(line, 12) + [draw.randrange(line.size)]:
                if x in line.starts or len(line.lengths) == 24:
                    self.refused_row(desk, desk.do, f"cut {x}")
                else:
                    self.cut_at(line, x)
            for x in (0, line.size, line.size + 1):
                self.refused_row(desk, desk.do, f"cut {x}")

    def test_till_there_are_24_pieces(self):
        for turn in ("", "-"):
            desk = Desk(f"pieces 30\nlaid 0{turn}\n")
            gone = gone_by(read(desk.text()))
            for x in range(23, 0, -1):
                self.refused_row(desk, desk.do, "cut 0")
                desk.do(f"cut {x}")
                self.assertEqual(gone_by(read(desk.text())), gone)
            self.assertEqual(len(read(desk.text()).lengths), 24)
            for x in range(31):
                self.refused_row(desk, desk.do, f"cut {x}")
            desk.do("back")
            self.refused_row(desk, desk.do, "cut 2")
            desk.do("cut 29")


class Turn(Held):
    def test_told(self):
        desk = Desk(TOLD)
        for row, laid in (("turn 1", "2- 0- 1-"), ("turn 2", "2 0- 1-"), ("turn 2", "2- 0- 1-"), ("turn 0", "2- 0 1-")):
            desk.do(row)
            self.assertEqual(desk.text(), f"pieces 3 1 4\nlaid {laid}\n")

    def test_each_piece(self):
        for line in walked_lines() + great_lines():
            desk = desk_of(line)
            pieces = len(line.lengths)
            for piece in range(pieces):
                turned = tuple(old != (at == piece) for at, old in enumerate(line.turned))
                for wanted in (turned, line.turned):
                    self.assertEqual(line_fields(self.does(desk, f"turn {piece}")), (line.lengths, line.order, wanted))
            for piece in (pieces, pieces + 1, 24, 25, GREATEST, FARTHEST):
                self.refused_row(desk, desk.do, f"turn {piece}")


class Lay(Held):
    def test_told(self):
        desk = Desk(TOLD)
        for row, laid in (("lay 2 1", "0- 2- 1"), ("lay 2 2", "0- 1 2-"), ("lay 1 0", "1 0- 2-"),
                          ("lay 1 0", "1 0- 2-"), ("lay 1 2", "0- 2- 1"), ("lay 1 0", "1 0- 2-")):
            desk.do(row)
            self.assertEqual(desk.text(), f"pieces 3 1 4\nlaid {laid}\n")

    def test_each_piece_and_position(self):
        small = [Line(*told) for told in small_told_lines()[::3] + drawn_told_lines(7, 12, 40) + full_told_lines()]
        for line in small:
            desk = desk_of(line)
            pieces = len(line.lengths)
            for piece in range(pieces):
                for position in range(pieces):
                    before = read(desk.text())
                    behind = self.does(desk, f"lay {piece} {position}")
                    self.assertEqual((behind.lengths, behind.turned), (line.lengths, line.turned))
                    self.assertEqual(behind.order[position], piece)
                    self.assertEqual([other for other in behind.order if other != piece],
                                     [other for other in before.order if other != piece])
            for wrong in (pieces, pieces + 1, 24, 25, GREATEST, FARTHEST):
                for other in (0, pieces - 1, wrong):
                    self.refused_row(desk, desk.do, f"lay {wrong} {other}")
                    self.refused_row(desk, desk.do, f"lay {other} {wrong}")


class Long(Held):
    def test_told(self):
        desk = Desk(TOLD)
        for row, lengths in (("long 0 10", "10 1 4"), ("long 2 1", "10 1 1"), ("long 1 1", "10 1 1"),
                             ("long 0 2", "2 1 1")):
            desk.do(row)
            self.assertEqual(desk.text(), f"pieces {lengths}\nlaid 2- 0- 1\n")

    def test_each_piece(self):
        for line in walked_lines() + great_lines():
            desk = desk_of(line)
            pieces = len(line.lengths)
            for piece in range(pieces):
                others = line.size - line.lengths[piece]
                for length in (1, 2, 77, GREATEST - others - 1, GREATEST - others):
                    if length < 1 or others + length > GREATEST:
                        self.refused_row(desk, desk.do, f"long {piece} {length}")
                        continue
                    lengths = line.lengths[:piece] + (length,) + line.lengths[piece + 1:]
                    behind = self.does(desk, f"long {piece} {length}")
                    self.assertEqual(line_fields(behind), (lengths, line.order, line.turned))
                for length in (0, GREATEST - others + 1, GREATEST + 1, FARTHEST, 10 * FARTHEST - 1):
                    self.refused_row(desk, desk.do, f"long {piece} {length}")
                desk.do(f"long {piece} {line.lengths[piece]}")
            for piece in (pieces, pieces + 1, 24, GREATEST, FARTHEST):
                for length in (0, 1, 5):
                    self.refused_row(desk, desk.do, f"long {piece} {length}")


def drawn_deed(draw, line):
    """A deed for a line, most often one that is done."""
    pieces = len(line.lengths)
    word = draw.choice(("cut", "cut", "turn", "lay", "long"))
    if word == "cut":
        return f"cut {draw.randrange(line.size)}"
    if word == "turn":
        return f"turn {draw.randrange(pieces)}"
    if word == "lay":
        return f"lay {draw.randrange(pieces)} {draw.randrange(pieces)}"
    return f"long {draw.randrange(pieces)} {draw.randint(1, 2 * max(line.lengths))}"


class Back(Held):
    def test_told(self):
        desk = Desk(TOLD)
        self.refused_row(desk, desk.do, "back")
        desk.do("turn 0")
        desk.do("cut 1")
        desk.do("back")
        self.assertEqual((desk.text(), desk.left()), ("pieces 3 1 4\nlaid 2- 0 1\n", 1))
        desk.do("lay 0 0")
        self.assertEqual((desk.text(), desk.left()), ("pieces 3 1 4\nlaid 0 2- 1\n", 2))
        self.takes_back(desk, "pieces 3 1 4\nlaid 2- 0 1\n", 1)
        self.takes_back(desk, TOLD, 0)
        self.refused_row(desk, desk.do, "back")
        self.refused_row(desk, desk.do, "back")

    def test_deeds_that_leave_the_line_as_it_was(self):
        desk = Desk(TOLD)
        for row in ("lay 2 0", "long 0 3", "lay 1 2"):
            self.assertEqual(written(self.does(desk, row)), TOLD)
        for left in (2, 1, 0):
            self.takes_back(desk, TOLD, left)
        self.refused_row(desk, desk.do, "back")

    def test_through_all_deeds_and_one_more(self):
        draw = Random(122)
        for told in drawn_told_lines(6, 12, 60) + full_told_lines() + told_lines():
            desk = Desk(written(Line(*told)))
            texts = [desk.text()]
            for _ in range(60):
                if draw.random() < 0.3:
                    if len(texts) > 1:
                        texts.pop()
                        self.takes_back(desk, texts[-1], len(texts) - 1)
                    else:
                        self.refused_row(desk, desk.do, "back")
                    continue
                try:
                    self.does(desk, drawn_deed(draw, read(desk.text())))
                    texts.append(desk.text())
                except BadRow as refusal:
                    self.assertEqual(refusal.at, len(texts))
                self.assertEqual((desk.text(), desk.left()), (texts[-1], len(texts) - 1))
            while len(texts) > 1:
                texts.pop()
                self.takes_back(desk, texts[-1], len(texts) - 1)
            self.refused_row(desk, desk.do, "back")
            self.does(desk, "turn 0")
            self.takes_back(desk, texts[0], 0)


class RefusedRows(Held):
    def answers(self, desk):
        return [desk.ask(row) for row in GOOD_QUESTIONS]

    def refused_by_both(self, desk, row):
        self.refused_row(desk, desk.do, row)
        self.refused_row(desk, desk.ask, row)

    def test_other_rows(self):
        desk = Desk(TOLD)
        for deeds in (0, 1, 2, 3):
            answers = self.answers(desk)
            for row in OTHER_ROWS:
                self.refused_by_both(desk, row)
            self.assertEqual(self.answers(desk), answers)
            desk.do(GOOD_DEEDS[deeds])

    def test_blanks_and_words(self):
        desk = Desk(TOLD)
        desk.do("turn 1")
        answers = self.answers(desk)
        for row in GOOD_DEEDS + GOOD_QUESTIONS:
            for wrong in wrong_blanks(row) + wrong_words(row):
                self.refused_by_both(desk, wrong)
        for row in wrong_blanks("back"):
            self.refused_by_both(desk, row)
        self.assertEqual(self.answers(desk), answers)
        for row in GOOD_DEEDS:
            self.assertIsNone(desk.do(row))
            desk.do("back")

    def test_deeds_are_no_questions_and_questions_no_deeds(self):
        desk = Desk(TOLD)
        for row in GOOD_DEEDS + ("back",):
            self.refused_row(desk, desk.ask, row)
        for row in GOOD_QUESTIONS:
            self.refused_row(desk, desk.do, row)
        desk.do("turn 0")
        for row in GOOD_DEEDS + ("back",):
            self.refused_row(desk, desk.ask, row)
        for row in GOOD_QUESTIONS:
            self.refused_row(desk, desk.do, row)

    def test_figures(self):
        desk = Desk("pieces 8 7\nlaid 1 0-\n")
        for number in (FARTHEST, 10 * FARTHEST - 1):
            self.assertEqual(len(str(number)), 61)
            self.assertEqual([desk.ask(row) for row in (f"place {number} 0 0", f"place 0 {number} 0",
                                                        f"place 0 0 {number}")], ["none"] * 3)
        for number in (10 * FARTHEST, 100 * FARTHEST - 1):
            self.assertEqual(len(str(number)), 62)
            for row in (f"place {number} 0 0", f"place 0 {number} 0", f"place 0 0 {number}", f"goes 0 {number}",
                        f"goes 0 -{number}", f"goes {number} 0", f"visits 0 {number}", f"round {number}",
                        f"between 0 {number}", f"address {number}"):
                self.refused_row(desk, desk.ask, row)
        for number in (FARTHEST, 10 * FARTHEST - 1, 10 * FARTHEST, 100 * FARTHEST - 1):
            for row in (f"cut {number}", f"turn {number}", f"lay {number} 0", f"lay 0 {number}", f"long 0 {number}",
                        f"long {number} 1"):
                self.refused_row(desk, desk.do, row)

    def test_at_behind_many_deeds(self):
        desk = Desk(TOLD)
        for deeds in range(300):
            self.assertEqual(desk.left(), deeds)
            self.refused_row(desk, desk.do, "turn 3")
            self.refused_row(desk, desk.ask, "round 8")
            desk.do("turn 2")
        for deeds in range(300, 0, -1):
            self.assertEqual(desk.left(), deeds)
            self.refused_row(desk, desk.do, "lay 0 3")
            desk.do("back")
        self.refused_row(desk, desk.do, "back")


def bands_text(chart):
    return " ".join(f"{start} {width} {height} {'turned' if turned else 'plain'}"
                    for start, width, height, turned in chart.bands)


class Questions(Held):
    def test_told(self):
        desk = Desk("pieces 6 4\nlaid 1 0\n")
        for row, answer in (("goes 7 1", "1"), ("goes 7 0", "7"), ("goes 1 -1", "7"), (f"goes 7 {FARTHEST}", "7"),
                            (f"goes 7 -{FARTHEST}", "7"), ("round 7", "5"), ("address 7", "0 1 4"),
                            ("visits 7 0", "0 0"), ("visits 7 5", "3 2"),
                            (f"visits 7 {FARTHEST}", f"{6 * 10 ** 59} {4 * 10 ** 59}"), ("between 7 1", "1"),
                            ("between 7 7", "0"), ("between 7 0", "none"), ("place 0 1 4", "7"),
                            ("place 0 2 0", "none"), ("place 1 0 0", "none"), ("place 0 0 5", "none"),
                            ("rounds", "5 2"), ("bands", "0 2 5 plain"),
                            ("paper", "unders 0 1 overs 1 1 even 1 0 home 0 0")):
            self.assertEqual(desk.ask(row), answer)
        desk = Desk("pieces 2 3\nlaid 1- 0\n")
        self.assertEqual(desk.ask("rounds"), "1 1 4 1")
        self.assertIn(" turned", desk.ask("bands"))

    def test_place_by_place(self):
        for line in walked_lines()[::5]:
            desk = desk_of(line)
            gone = gone_by(line)
            for x in range(line.size):
                way = round_of(gone, x)
                self.assertEqual(desk.ask(f"round {x}"), str(len(way)))
                for goings in (0, 1, 2, len(way), len(way) + 1, 10 ** 9 + 7):
                    self.assertEqual(desk.ask(f"goes {x} {goings}"), str(way[goings % len(way)]))
                    if goings > 0:
                        self.assertEqual(desk.ask(f"goes {x} -{goings}"), str(way[-goings % len(way)]))
                for y in range(0, line.size, 3):
                    self.assertEqual(desk.ask(f"between {x} {y}"), str(way.index(y)) if y in way else "none")

    def as_told(self, desk, chart, places):
        """Each question is answered as the functions tell, for the chart of the line as it stands."""
        self.assertEqual(desk.ask("rounds"), " ".join(f"{length} {number}" for length, number in rounds(chart)))
        self.assertEqual(desk.ask("bands"), bands_text(chart))
        self.assertEqual(desk.ask("paper"), " ".join(" ".join(map(str, row)) for row in paper_of(chart)))
        for x in places:
            told = address(chart, x)
            self.assertEqual(desk.ask(f"round {x}"), str(round_length(chart, x)))
            self.assertEqual(desk.ask(f"address {x}"), " ".join(map(str, told)))
            self.assertEqual(desk.ask("place " + " ".join(map(str, told))), str(x))
            for y in places[:3]:
                goings = between(chart, x, y)
                self.assertEqual(desk.ask(f"between {x} {y}"), "none" if goings is None else str(goings))
            for goings in (0, 1, 77, 10 ** 28 + 3, FARTHEST - 1, FARTHEST):
                self.assertEqual(desk.ask(f"goes {x} {goings}"), str(after(chart, x, goings)))
                self.assertEqual(desk.ask(f"visits {x} {goings}"), " ".join(map(str, visits(chart, x, goings))))
            for goings in (1, 77, 10 ** 28 + 3, FARTHEST - 1, FARTHEST):
                self.assertEqual(desk.ask(f"goes {x} -{goings}"), str(after(chart, x, -goings)))

    def test_as_the_functions_tell(self):
        for line in walked_lines()[::3]:
            chart = Chart(line)
            self.as_told(desk_of(line), chart, telling_places(chart, 5))

    def test_great_lines(self):
        for line in great_lines():
            chart = Chart(line)
            self.as_told(desk_of(line), chart, telling_places(chart, 4))

    def test_each_address_and_those_beside(self):
        for line in walked_lines()[::7]:
            chart = Chart(line)
            desk = desk_of(line)
            for number, (_, width, height, _) in enumerate(chart.bands):
                for offset in range(width):
                    for level in range(height):
                        told = (number, offset, level)
                        self.assertEqual(desk.ask(f"place {number} {offset} {level}"), str(place(chart, told)))
                for offset, level in ((width, 0), (0, height), (width, height), (FARTHEST, 0), (0, FARTHEST)):
                    self.assertEqual(desk.ask(f"place {number} {offset} {level}"), "none")
            for wrong in (len(chart.bands), len(chart.bands) + 1, GREATEST, FARTHEST):
                self.assertEqual(desk.ask(f"place {wrong} 0 0"), "none")

    def test_places_that_are_not_on_the_line(self):
        for line in walked_lines()[::7] + great_lines()[::3]:
            desk = desk_of(line)
            size = line.size
            desk.do("turn 0")
            for x in (size, size + 1, 2 * size, size + GREATEST, FARTHEST, 10 * FARTHEST - 1, -1, -size):
                for row in (f"goes {x} 0", f"goes {x} 1", f"goes {x} -1", f"round {x}", f"address {x}", f"visits {x} 0",
                            f"visits {x} 1", f"between {x} 0", f"between 0 {x}", f"between {x} {x}"):
                    self.refused_row(desk, desk.ask, row)
            for row in (f"goes {size - 1} 1", f"round {size - 1}", f"address {size - 1}", f"visits {size - 1} 1",
                        f"between 0 {size - 1}", f"between {size - 1} 0"):
                self.assertIs(type(desk.ask(row)), str)

    def test_numbers_of_goings(self):
        desk = Desk(TOLD)
        for goings in (FARTHEST + 1, 2 * FARTHEST, 10 * FARTHEST - 1, 10 * FARTHEST):
            for row in (f"goes 0 {goings}", f"goes 0 -{goings}", f"visits 0 {goings}", f"visits 0 -{goings}"):
                self.refused_row(desk, desk.ask, row)
        for goings in ("-0", "-00", "-01", "--1", "- 1", "+1", "-", "1-", "-1-", "-x"):
            self.refused_row(desk, desk.ask, f"goes 0 {goings}")
            self.refused_row(desk, desk.ask, f"visits 0 {goings}")
        for goings in ("-1", "-2", f"-{FARTHEST}"):
            self.refused_row(desk, desk.ask, f"visits 0 {goings}")
        for row in ("goes -1 1", "goes -0 1", "round -1", "round -0", "address -1", "visits -1 1", "between -1 0",
                    "between 0 -1", "between 0 -0", "place -1 0 0", "place 0 -1 0", "place 0 0 -1", "place 0 0 -0"):
            self.refused_row(desk, desk.ask, row)

    def test_between_on_the_greatest_line(self):
        desk = Desk(f"pieces {GREATEST}\nlaid 0-\n")
        self.assertEqual(desk.ask(f"between 0 {GREATEST - 1}"), "1")
        self.assertEqual(desk.ask(f"between 1 {GREATEST - 1}"), "none")
        self.refused_row(desk, desk.ask, f"between 0 {GREATEST}")

    def test_a_question_changes_nothing(self):
        desk = Desk(TOLD)
        for deed in ("turn 0",) + GOOD_DEEDS:
            desk.do(deed)
            before = (desk.text(), desk.left())
            answers = [desk.ask(row) for row in GOOD_QUESTIONS]
            self.assertEqual([desk.ask(row) for row in GOOD_QUESTIONS[::-1]], answers[::-1])
            self.assertEqual([desk.ask(row) for row in GOOD_QUESTIONS], answers)
            self.assertEqual({type(answer) for answer in answers}, {str})
            self.assertEqual((desk.text(), desk.left()), before)

    def test_for_the_line_as_it_stands(self):
        draw = Random(123)
        for told in drawn_told_lines(6, 12, 12) + full_told_lines():
            desk = Desk(written(Line(*told)))
            for _ in range(20):
                try:
                    desk.do("back" if draw.random() < 0.3 else drawn_deed(draw, read(desk.text())))
                except BadRow:
                    self.refused_row(desk, desk.do, "turn 24")
                chart = Chart(read(desk.text()))
                self.as_told(desk, chart, telling_places(chart, 2))

    def test_by_the_names_of_the_arguments(self):
        desk = Desk(text=TOLD)
        self.assertIsNone(desk.do(row="turn 1"))
        self.assertEqual(desk.ask(row="goes 0 0"), "0")


class Kept(Held):
    def answers(self, desk, places):
        told = [desk.ask("rounds")]
        for x in places:
            told.append(desk.ask(f"round {x}"))
            told += [desk.ask(f"goes {x} {goings}") for goings in (0, 1, 2, -1, 12345, -10 ** 40, FARTHEST)]
            told += [desk.ask(f"between {x} {y}") for y in places]
        return told

    def test_a_cut_changes_no_answer(self):
        for line in walked_lines()[::9]:
            desk = desk_of(line)
            places = list(range(0, line.size, max(1, line.size // 6)))
            answers = self.answers(desk, places)
            for x in [x for x in range(line.size) if x not in line.starts][:6 if len(line.lengths) < 24 else 0]:
                desk.do(f"cut {x}")
                self.assertEqual(self.answers(desk, places), answers)
                desk.do("back")
                self.assertEqual(self.answers(desk, places), answers)

    def test_cuts_of_great_lines(self):
        draw = Random(124)
        for line in [Line(*told) for told in drawn_told_lines(12, 4 * 10 ** 28, 12) if sum(told[0]) > 10 ** 27]:
            desk = desk_of(line)
            places = telling_places(Chart(line), 4)
            answers = self.answers(desk, places)
            while len(read(desk.text()).lengths) < 24:
                desk.do(f"cut {draw.randrange(line.size)}")
            self.assertEqual(self.answers(desk, places), answers)
            while desk.left() > 0:
                desk.do("back")
            self.assertEqual(desk.text(), written(line))
            self.assertEqual(self.answers(desk, places), answers)


class ManyDeeds(Held):
    def test_many_deeds_and_questions(self):
        line = Line([4 * 10 ** 28 + p * p for p in range(24)], [(7 * p + 5) % 24 for p in range(24)])
        desk = desk_of(line)
        for deed in range(5000):
            desk.do(f"lay {deed % 24} {5 * deed % 24}")
            desk.do(f"turn {7 * deed % 24}")
            desk.do(f"long {deed % 24} {4 * 10 ** 28 + deed}")
        self.assertEqual(desk.left(), 15000)
        chart = Chart(read(desk.text()))
        for x in telling_places(chart, 300):
            self.assertEqual(desk.ask(f"goes {x} {FARTHEST}"), str(after(chart, x, FARTHEST)))
        for left in range(15000, 0, -1):
            self.assertEqual(desk.left(), left)
            desk.do("back")
        self.assertEqual(desk.text(), written(line))
        self.refused_row(desk, desk.do, "back")


if __name__ == "__main__":
    unittest.main()
