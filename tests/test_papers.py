import unittest
from random import Random

from relaid.charts import Chart
from relaid.lines import Line
from relaid.papers import bands_led, examined, paper_of
from relaid.rests import Rest, rest_of
from samples import (GREATEST, Timed, all_told, behind_told, closed, drawn_told_lines, fought, great_told_lines,
                     small_told_lines, step_told, told_lines)

WORDS = ("home", "even", "over", "under", "overs", "unders")


def row_of(told):
    """The row that writes down a step, told as word, winner, times and losers."""
    word, winner, times, losers = told
    if word == "home":
        return (word, winner, 0)
    return (word, winner, times if word in ("overs", "unders") else losers[0])


def losers_of(rest, word, winner, number):
    if word == "home":
        return ()
    if word in ("even", "over", "under"):
        return (number,)
    row = rest.bottom if word == "overs" else rest.top
    return row[row.index(winner) + 1:]


def done_anyhow(rest, row):
    """The rest behind a row, where it can be done at all, whether it may be or not; else None."""
    word, winner, number = row
    named = (winner, number) if word in ("even", "over", "under") else (winner,)
    if word not in WORDS or not set(named) <= set(rest.top) or len(set(named)) < len(named):
        return None
    times = number if word in ("overs", "unders") else 1
    return Rest(*behind_told(rest, (word, winner, times, losers_of(rest, word, winner, number))))


def may(rest, row):
    """Whether a row may be done, by the words of 4.6."""
    word, winner, number = row
    if not rest.top:
        return False
    a, b = rest.top[-1], rest.bottom[-1]
    lengths, turned = rest.lengths, rest.turned
    if word == "home":
        return winner == a and a == b and number == 0
    if a == b:
        return False
    if word == "even":
        return (winner, number) == (a, b) and lengths[a] == lengths[b]
    if word == "over":
        return (winner, number) == (a, b) and lengths[a] > lengths[b]
    if word == "under":
        return (winner, number) == (b, a) and lengths[b] > lengths[a]
    if word not in ("overs", "unders") or winner != (a if word == "overs" else b) or turned[winner]:
        return False
    behind = sum(lengths[loser] for loser in losers_of(rest, word, winner, number))
    return number >= 1 and number * behind < lengths[winner]


def judged(line, paper):
    """The bands to which a paper leads by the words of 4.6 and 4.7, or None."""
    rest = rest_of(line)
    towers = [1] * len(line.lengths)
    bands = []
    for row in paper:
        if not may(rest, row):
            return None
        word, winner, number = row
        for loser in losers_of(rest, word, winner, number):
            towers[loser] += towers[winner] * (number if word in ("overs", "unders") else 1)
        if word == "home":
            width = rest.lengths[winner]
            bands.append((rest.size - width, width, towers[winner], rest.turned[winner]))
        rest = done_anyhow(rest, row)
    return None if rest.top else bands


def led_down(rest, choose):
    """The rows that lead a rest to nothing, each told by `choose` where the last letters are neither the same nor as
    long. None where this can't be, or goes on and on, as it may behind a row that may not be done."""
    rows = []
    while rest.top:
        if min(rest.lengths) < 0 or len(rows) > 3000:
            return None
        told = closed(rest) or choose(rest)
        rows.append(row_of(told))
        rest = Rest(*behind_told(rest, told))
    return rows


def one_by_one(rest):
    a, b = rest.top[-1], rest.bottom[-1]
    return ("over", a, 1, (b,)) if rest.lengths[a] > rest.lengths[b] else ("under", b, 1, (a,))


def drawn_choice(draw):
    def choose(rest):
        word, winner, loser, losers, most = fought(rest)
        if most == 0 or draw.randrange(4) == 0:
            return (word, winner, 1, (loser,))
        return (word + "s", winner, draw.choice((1, most, draw.randint(1, most))), losers)
    return choose


def own_paper(line):
    return led_down(rest_of(line), step_told)


def short_lines():
    return [Line(*told) for told in small_told_lines() + drawn_told_lines(7, 12, 60)]


class Papers(Timed):
    def check(self, line, paper, good):
        """The paper is told as good or not, as asked and as judged, and its bands are the chart's."""
        self.assertEqual(judged(line, paper) is not None, good, paper)
        self.assertIs(examined(line, paper), good, paper)
        bands = bands_led(line, paper)
        if good:
            self.assertEqual(bands, list(Chart(line).bands))
            self.assertEqual(bands, judged(line, paper))
        else:
            self.assertIsNone(bands)

    def check_as_judged(self, line, paper):
        good = judged(line, paper) is not None
        self.check(line, paper, good)
        return good


class PaperOf(Papers):
    def test_told(self):
        for told, paper in (
                (([9], [0]), [("home", 0, 0)]),
                (([9], [0], [True]), [("home", 0, 0)]),
                (([6, 4], [1, 0]), [("unders", 0, 1), ("overs", 1, 1), ("even", 1, 0), ("home", 0, 0)]),
                (([2, 3], [1, 0], [False, True]), [("over", 1, 0), ("home", 1, 0), ("home", 0, 0)]),
                (([3, 2], [1, 0], [True, False]), [("under", 0, 1), ("home", 0, 0), ("home", 1, 0)]),
                (([1, GREATEST - 1], [1, 0]), [("overs", 1, GREATEST - 2), ("even", 1, 0), ("home", 0, 0)]),
                (([GREATEST - 1, 1], [1, 0]), [("unders", 0, GREATEST - 2), ("even", 1, 0), ("home", 0, 0)]),
                (([3, 5, 2], [0, 1, 2]), [("home", 2, 0), ("home", 1, 0), ("home", 0, 0)])):
            self.assertEqual(paper_of(Chart(Line(*told))), paper)

    def test_one_row_for_each_step_in_their_order(self):
        seen = set()
        for told in all_told():
            chart = Chart(Line(*told))
            paper = paper_of(chart)
            self.assertEqual(paper, own_paper(chart.line))
            self.assertEqual([row[:2] for row in paper], [(step.word(), step.winner) for step in chart.steps])
            seen |= {row[0] for row in paper}
        self.assertEqual(seen, set(WORDS))

    def test_kinds(self):
        for told in told_lines() + great_told_lines():
            paper = paper_of(Chart(Line(*told)))
            self.assertIs(type(paper), list)
            for row in paper:
                self.assertIs(type(row), tuple)
                self.assertEqual([type(part) for part in row], [str, int, int])

    def test_a_told_list_is_the_askers_own(self):
        for told in told_lines():
            chart = Chart(Line(*told))
            paper = paper_of(chart)
            kept = list(paper)
            paper[0] = ("even", 5, 5)
            paper.append(("home", 0, 0))
            self.assertEqual(paper_of(chart), kept)
            paper.clear()
            self.assertEqual(paper_of(chart), kept)
            self.assertEqual(paper_of(Chart(Line(*told))), kept)


class Rows(Papers):
    """Rows that may be done, and rows that may not, behind which the paper goes on as if they had been done."""

    def check_row(self, told, row, good):
        line = Line(*told)
        rest = rest_of(line)
        self.assertEqual(may(rest, row), good)
        behind = done_anyhow(rest, row)
        if good:
            self.check(line, [row] + led_down(behind, step_told), True)
        for paper in ([row], [row] + own_paper(line), own_paper(line) + [row]):
            self.check_as_judged(line, paper)
        if not good and behind is not None:
            self.check(line, [row] + (led_down(behind, one_by_one) or []), False)

    def test_home(self):
        for turned in (False, True):
            told = ([2, 1, 3], [1, 0, 2], [turned, False, turned])
            self.check_row(told, ("home", 2, 0), True)
            for winner, number in ((2, 1), (2, 2), (2, -1), (2, GREATEST), (1, 0), (0, 0), (3, 0), (-1, 0)):
                self.check_row(told, ("home", winner, number), False)

    def test_home_where_the_last_letters_are_unlike(self):
        for told in (([2, 3], [1, 0]), ([3, 3], [1, 0]), ([3, 2], [1, 0], [True, True])):
            for winner in (0, 1):
                self.check_row(told, ("home", winner, 0), False)

    def test_other_words_where_the_last_letters_are_the_same(self):
        for told in (([2, 3], [0, 1]), ([3, 3], [0, 1]), ([4, 3], [0, 1]), ([1], [0])):
            for word in WORDS[1:]:
                for winner in range(len(told[0])):
                    for number in (-1, 0, 1, 2):
                        self.check_row(told, (word, winner, number), False)

    def test_even(self):
        for turned in ((False, False), (False, True), (True, False), (True, True)):
            told = ([4, 4], [1, 0], turned)
            self.check_row(told, ("even", 1, 0), True)
            for winner, number in ((0, 1), (1, 1), (0, 0), (1, 2), (2, 0), (1, -1), (1, -2), (-1, 0), (1, GREATEST)):
                self.check_row(told, ("even", winner, number), False)
            self.check_row(told, ("over", 1, 0), False)
            self.check_row(told, ("under", 0, 1), False)
            self.check_row(told, ("overs", 1, 1), False)
            self.check_row(told, ("unders", 0, 1), False)

    def test_even_with_lengths_unlike(self):
        for lengths in ([4, 5], [5, 4], [1, GREATEST - 1]):
            self.check_row((lengths, [1, 0]), ("even", 1, 0), False)
            self.check_row((lengths, [1, 0]), ("even", 0, 1), False)

    def test_over(self):
        for turned in ((False, False), (False, True), (True, False), (True, True)):
            told = ([4, 6], [1, 0], turned)
            self.check_row(told, ("over", 1, 0), True)
            for winner, number in ((0, 1), (1, 1), (0, 0), (1, 2), (2, 0), (1, -1), (1, -2), (-1, 0), (1, GREATEST)):
                self.check_row(told, ("over", winner, number), False)
            self.check_row(told, ("under", 0, 1), False)
            self.check_row(told, ("under", 1, 0), False)

    def test_under(self):
        for turned in ((False, False), (False, True), (True, False), (True, True)):
            told = ([6, 4], [1, 0], turned)
            self.check_row(told, ("under", 0, 1), True)
            for winner, number in ((1, 0), (1, 1), (0, 0), (0, 2), (2, 1), (0, -1), (0, -2), (-1, 1), (0, GREATEST)):
                self.check_row(told, ("under", winner, number), False)
            self.check_row(told, ("over", 1, 0), False)
            self.check_row(told, ("over", 0, 1), False)

    def test_a_loser_that_is_not_the_last_one(self):
        self.check_row(([1, 2, 5], [2, 1, 0]), ("over", 2, 0), True)
        self.check_row(([1, 2, 5], [2, 1, 0]), ("over", 2, 1), False)
        self.check_row(([5, 2, 1], [1, 2, 0]), ("under", 0, 2), True)
        self.check_row(([5, 2, 1], [1, 2, 0]), ("under", 0, 1), False)
        self.check_row(([3, 3, 3], [2, 1, 0]), ("even", 2, 0), True)
        self.check_row(([3, 3, 3], [2, 1, 0]), ("even", 2, 1), False)

    def test_overs(self):
        for lengths, most in (([2, 3, 17], 3), ([2, 3, 15], 2), ([2, 3, 16], 3), ([2, 3, 6], 1), ([2, 3, 5], 0),
                              ([2, 3, 4], 0), ([1, 1, 2 * 10 ** 28], 10 ** 28 - 1)):
            for numbers, good in (((1, 2, most - 1, most), True), ((0, -1, -2, -GREATEST), False),
                                  ((most + 1, most + 2, 10 * most + 10, 10 ** 40), False)):
                for number in numbers:
                    self.check_row((lengths, [2, 1, 0]), ("overs", 2, number), good and 1 <= number <= most)

    def test_unders(self):
        for lengths, most in (([17, 3, 2], 3), ([15, 3, 2], 2), ([16, 3, 2], 3), ([6, 3, 2], 1), ([5, 3, 2], 0),
                              ([4, 3, 2], 0), ([2 * 10 ** 28, 1, 1], 10 ** 28 - 1)):
            for numbers, good in (((1, 2, most - 1, most), True), ((0, -1, -2, -GREATEST), False),
                                  ((most + 1, most + 2, 10 * most + 10, 10 ** 40), False)):
                for number in numbers:
                    self.check_row((lengths, [2, 1, 0]), ("unders", 0, number), good and 1 <= number <= most)

    def test_overs_and_unders_by_another_winner(self):
        for lengths in ([2, 3, 17], [17, 3, 2], [17, 17, 17], [2, 17, 3]):
            for word in ("overs", "unders"):
                for winner in (0, 1, 2, 3, -1, -3, GREATEST):
                    good = (lengths, word, winner) in (([2, 3, 17], "overs", 2), ([17, 3, 2], "unders", 0))
                    self.check_row((lengths, [2, 1, 0]), (word, winner, 1), good)

    def test_overs_and_unders_by_a_turned_winner(self):
        for others in ((False, False), (True, False), (True, True)):
            for times in (1, 2, 3):
                self.check_row(([2, 3, 17], [2, 1, 0], others + (True,)), ("overs", 2, times), False)
                self.check_row(([2, 3, 17], [2, 1, 0], others + (False,)), ("overs", 2, times), True)
                self.check_row(([17, 3, 2], [2, 1, 0], (True,) + others), ("unders", 0, times), False)
                self.check_row(([17, 3, 2], [2, 1, 0], (False,) + others), ("unders", 0, times), True)

    def test_overs_count_the_letters_behind_the_winner_alone(self):
        self.check_row(([100, 4, 9], [0, 2, 1]), ("overs", 2, 2), True)
        self.check_row(([100, 4, 9], [0, 2, 1]), ("overs", 2, 3), False)
        self.check_row(([100, 9, 4], [0, 2, 1]), ("unders", 1, 2), True)
        self.check_row(([100, 9, 4], [0, 2, 1]), ("unders", 1, 3), False)

    def test_steps_that_are_not_the_next_one(self):
        self.check_row(([2, 3, 17], [2, 1, 0]), ("over", 2, 0), True)
        self.check_row(([17, 3, 2], [2, 1, 0]), ("under", 0, 2), True)
        self.check_row(([2, 3, 5], [2, 1, 0]), ("overs", 2, 1), False)
        self.check_row(([5, 3, 2], [2, 1, 0]), ("unders", 0, 1), False)

    def test_words_that_are_none(self):
        for told, row in ((([4], [0]), ("home", 0, 0)), (([4, 4], [1, 0]), ("even", 1, 0)),
                          (([4, 6], [1, 0]), ("over", 1, 0)), (([6, 4], [1, 0]), ("under", 0, 1)),
                          (([4, 6], [1, 0]), ("overs", 1, 1)), (([6, 4], [1, 0]), ("unders", 0, 1))):
            line = Line(*told)
            behind = led_down(done_anyhow(rest_of(line), row), step_told)
            self.check(line, [row] + behind, True)
            word = row[0]
            for other in ("", "step", word.upper(), word.title(), word + " ", " " + word, word + "\n", word + "es",
                          word[1:], word[0], "none", "homes", "evens", "overss"):
                self.check(line, [(other,) + row[1:]] + behind, False)
                self.check(line, [(other,) + row[1:]] + own_paper(line), False)

    def test_all_rows_at_the_rests_that_lines_come_through(self):
        goods = 0
        for told in drawn_told_lines(4, 12, 14):
            line = Line(*told)
            rest = rest_of(line)
            ahead = []
            for own in own_paper(line):
                for row in self.rows_near(rest):
                    goods += self.check_behind(line, ahead, rest, row)
                ahead.append(own)
                rest = done_anyhow(rest, own)
        self.assertGreater(goods, 50)

    def rows_near(self, rest):
        letters = list(range(-1, len(rest.lengths) + 1))
        most = 0 if closed(rest) else fought(rest)[4]
        numbers = sorted(set(letters) | {most, most + 1})
        return [(word, winner, number) for word in WORDS for winner in letters for number in numbers]

    def check_behind(self, line, ahead, rest, row):
        """Whether the row may be done there, and that it is told so: the paper goes on as if it had been done, and as
        if it had been passed over."""
        good = may(rest, row)
        behind = done_anyhow(rest, row)
        papers = [ahead + [row] + led_down(rest, step_told)]
        if behind is not None:
            papers.append(ahead + [row] + (led_down(behind, one_by_one) or []))
        for paper in papers:
            asked = good and paper is papers[-1]
            self.assertIs(examined(line, paper), asked, paper)
        return good


class WholePapers(Papers):
    def test_the_own_paper(self):
        for told in all_told():
            line = Line(*told)
            self.check(line, paper_of(Chart(line)), True)

    def test_by_hand(self):
        line = Line([1, 100], [1, 0])
        ends = [("even", 1, 0), ("home", 0, 0)]
        for paper in ([("overs", 1, 99)] + ends, [("overs", 1, 40), ("over", 1, 0), ("overs", 1, 58)] + ends,
                      [("over", 1, 0)] * 99 + ends, [("overs", 1, 1)] * 99 + ends,
                      [("overs", 1, 98), ("over", 1, 0)] + ends):
            self.check(line, paper, True)
            self.assertEqual(bands_led(line, paper), [(0, 1, 101, False)])
        for paper in ([("over", 1, 0)] * 98 + ends, [("over", 1, 0)] * 100 + ends, [("overs", 1, 98)] + ends,
                      [("overs", 1, 100)] + ends, [("overs", 1, 40), ("overs", 1, 60)] + ends):
            self.check(line, paper, False)

    def test_one_by_one(self):
        for line in short_lines():
            self.check(line, led_down(rest_of(line), one_by_one), True)

    def test_other_times_than_the_charts(self):
        draw = Random(46)
        others = 0
        for told in all_told():
            line = Line(*told)
            paper = led_down(rest_of(line), drawn_choice(draw))
            self.check(line, paper, True)
            others += paper != paper_of(Chart(line))
        self.assertGreater(others, 200)

    def test_an_empty_paper(self):
        for told in told_lines():
            self.check(Line(*told), [], False)

    def test_papers_that_end_too_early(self):
        for line in short_lines():
            paper = own_paper(line)
            for ahead in range(len(paper)):
                self.check(line, paper[:ahead], False)

    def test_a_row_left_out_or_twice(self):
        for line in short_lines():
            paper = own_paper(line)
            for at, row in enumerate(paper):
                self.check(line, paper[:at] + paper[at + 1:], False)
                twice = paper[:at] + [row] + paper[at:]
                self.check(line, twice, False)

    def test_one_more_row_behind_the_last(self):
        for told in told_lines() + drawn_told_lines(7, 12, 20):
            line = Line(*told)
            paper = own_paper(line)
            for word in WORDS + ("none",):
                for winner in (0, len(told[0]) - 1, -1):
                    for number in (0, 1):
                        self.check(line, paper + [(word, winner, number)], False)

    def test_two_rows_changed_about(self):
        bad = 0
        for line in short_lines():
            paper = own_paper(line)
            for at in range(len(paper) - 1):
                about = paper[:at] + [paper[at + 1], paper[at]] + paper[at + 2:]
                bad += not self.check_as_judged(line, about)
        self.assertGreater(bad, 1000)

    def test_two_rows_of_one_winner_may_be_good_both_ways(self):
        line = Line([2, 8, 2, 1], [0, 2, 3, 1])
        behind = [("over", 2, 1), ("even", 2, 3), ("even", 3, 1), ("home", 1, 0), ("home", 0, 0)]
        self.assertEqual(paper_of(Chart(line)), [("unders", 1, 2), ("under", 1, 3)] + behind)
        self.check(line, [("under", 1, 3), ("unders", 1, 2)] + behind, True)

    def test_a_row_changed(self):
        for told in drawn_told_lines(7, 12, 40) + great_told_lines()[:8]:
            line = Line(*told)
            paper = own_paper(line)
            for at, (word, winner, number) in list(enumerate(paper))[:40]:
                rows = [(word, winner, number + more) for more in (1, -1, 10 ** 31)]
                rows += [(word, winner + more, number) for more in (1, -1, 10 ** 31)]
                rows += [(other, winner, number) for other in WORDS if other != word]
                for row in rows:
                    self.check_as_judged(line, paper[:at] + [row] + paper[at + 1:])

    def test_great_papers_that_are_not_good(self):
        for told in great_told_lines():
            line = Line(*told)
            paper = own_paper(line)
            self.check(line, paper[:-1], False)
            self.check(line, paper[1:], False)
            self.check(line, paper + paper[-1:], False)

    def test_the_paper_of_another_line(self):
        one, two = Line([6, 4], [1, 0]), Line([6, 3], [1, 0])
        for line, other in ((one, two), (two, one)):
            self.check(line, own_paper(line), True)
            self.check(line, own_paper(other), False)
            self.check(line, own_paper(line), True)


class Asking(Papers):
    def test_kinds(self):
        for told in told_lines():
            line = Line(*told)
            bands = bands_led(line, own_paper(line))
            self.assertIs(type(bands), list)
            for band in bands:
                self.assertIs(type(band), tuple)
                self.assertEqual([type(part) for part in band], [int, int, int, bool])

    def test_by_the_names_of_the_arguments(self):
        line = Line([9], [0])
        self.assertEqual(paper_of(chart=Chart(line)), [("home", 0, 0)])
        self.assertIs(examined(line=line, paper=[("home", 0, 0)]), True)
        self.assertEqual(bands_led(line=line, paper=[("home", 0, 0)]), [(0, 9, 1, False)])

    def test_what_is_handed_in_stays(self):
        for told in told_lines() + drawn_told_lines(7, 12, 30):
            line = Line(*told)
            good = own_paper(line)
            for paper in (good, good[:-1], good + good[-1:], []):
                kept = list(paper)
                examined(line, paper)
                bands_led(line, paper)
                self.assertEqual(paper, kept)
            self.assertEqual((line.lengths, line.order, line.turned), tuple(tuple(row) for row in told))

    def test_told_bands_are_the_askers_own(self):
        for told in told_lines():
            line = Line(*told)
            paper = own_paper(line)
            bands = bands_led(line, paper)
            kept = list(bands)
            bands.clear()
            self.assertEqual(bands_led(line, paper), kept)
            self.assertEqual(list(Chart(line).bands), kept)

    def test_a_paper_that_is_changed_is_judged_anew(self):
        line = Line([6, 4], [1, 0])
        paper = own_paper(line)
        last = paper.pop()
        self.assertIs(examined(line, paper), False)
        paper.append(last)
        self.assertIs(examined(line, paper), True)
        self.assertIs(examined(line, paper), True)


if __name__ == "__main__":
    unittest.main()
