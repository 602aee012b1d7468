import unittest

from relaid.lines import Line
from relaid.rests import Rest, rest_of
from relaid.steps import Even, Home, Over, Overs, Step, Under, Unders, next_step
from samples import (GREATEST, Timed, behind_told, drawn_told_lines, first_return, fitting, gone_rows, letters_of,
                     rest_fields, small_rests, step_told, told_lines, told_rest)

KINDS = {"home": Home, "even": Even, "over": Over, "under": Under, "overs": Overs, "unders": Unders}


def many_rests():
    """The small rests, and all those that great lines come through."""
    rests = small_rests()
    for told in told_lines() + drawn_told_lines(24, 10 ** 28, 6):
        rest = rest_of(Line(*told))
        while rest.top:
            rests.append(rest)
            rest = Rest(*behind_told(rest, step_told(rest)))
    return rests


def by_hand(word, winner, times, losers):
    """The step, made of its class as the interface tells."""
    if word == "home":
        return Home(winner)
    if word in ("overs", "unders"):
        return KINDS[word](winner, times)
    return KINDS[word](winner, losers[0])


def facts(step, rest):
    return (step.word(), step.winner, step.times, step.losers(rest), step.own_first())


class Told(Timed):
    def check(self, told, asked, behind):
        """The next step of a rest is as asked, and so is the rest behind it; a step made by hand answers alike."""
        rest = Rest(*told)
        word, winner, times, losers, own_first = asked
        step = next_step(rest)
        self.assertIsInstance(step, KINDS[word])
        for one in (step, by_hand(word, winner, times, losers)):
            self.assertEqual(facts(one, rest), asked)
            self.assertEqual(told_rest(one.behind(rest)), behind)
            self.assertEqual(one.behind(rest).size, sum(behind[2]))

    def test_home(self):
        self.check(([0], [0], [4], [False]), ("home", 0, 1, (), False), ((), (), (0,), (False,)))
        self.check(([0], [0], [4], [True]), ("home", 0, 1, (), False), ((), (), (0,), (False,)))
        self.check(([3, 0, 1], [0, 3, 1], [2, 5, 0, 1], [True, True, False, False]), ("home", 1, 1, (), False),
                   ((3, 0), (0, 3), (2, 0, 0, 1), (True, False, False, False)))

    def test_even(self):
        for a, b, turned in ((False, False, False), (False, True, True), (True, False, True), (True, True, False)):
            self.check(([0, 2, 1, 3], [1, 3, 0, 2], [6, 7, 4, 4], [True, False, b, a]), ("even", 3, 1, (2,), True),
                       ((0, 2, 1), (1, 2, 0), (6, 7, 4, 0), (True, False, turned, False)))
            self.check(([1, 0], [0, 1], [4, 4], [a, b]), ("even", 0, 1, (1,), True),
                       ((1,), (1,), (0, 4), (False, turned)))

    def test_over(self):
        self.check(([0, 1, 2, 3], [0, 3, 2, 1], [9, 2, 3, 5], [True, False, True, False]),
                   ("over", 3, 1, (1,), True),
                   ((0, 1, 2, 3), (0, 3, 1, 2), (9, 2, 3, 3), (True, False, True, False)))
        self.check(([0, 1, 2, 3], [0, 3, 2, 1], [9, 2, 3, 5], [False, True, True, False]),
                   ("over", 3, 1, (1,), True),
                   ((0, 1, 2, 3), (0, 3, 1, 2), (9, 2, 3, 3), (False, True, True, False)))

    def test_over_by_a_turned_winner(self):
        self.check(([0, 1, 2, 3], [0, 3, 2, 1], [9, 2, 3, 5], [True, False, False, True]),
                   ("over", 3, 1, (1,), True),
                   ((0, 1, 2, 3), (0, 1, 3, 2), (9, 2, 3, 3), (True, True, False, True)))
        self.check(([0, 1, 2, 3], [0, 3, 2, 1], [9, 2, 3, 500], [False, True, False, True]),
                   ("over", 3, 1, (1,), True),
                   ((0, 1, 2, 3), (0, 1, 3, 2), (9, 2, 3, 498), (False, False, False, True)))

    def test_under(self):
        self.check(([0, 3, 2, 1], [1, 0, 2, 3], [9, 2, 3, 5], [True, False, True, False]),
                   ("under", 3, 1, (1,), False),
                   ((0, 3, 1, 2), (1, 0, 2, 3), (9, 2, 3, 3), (True, False, True, False)))
        self.check(([0, 3, 2, 1], [1, 0, 2, 3], [9, 2, 3, 5], [False, True, True, False]),
                   ("under", 3, 1, (1,), False),
                   ((0, 3, 1, 2), (1, 0, 2, 3), (9, 2, 3, 3), (False, True, True, False)))

    def test_under_by_a_turned_winner(self):
        self.check(([0, 3, 2, 1], [1, 0, 2, 3], [9, 2, 3, 5], [True, False, False, True]),
                   ("under", 3, 1, (1,), False),
                   ((0, 1, 3, 2), (1, 0, 2, 3), (9, 2, 3, 3), (True, True, False, True)))
        self.check(([0, 3, 2, 1], [1, 0, 2, 3], [9, 2, 3, 500], [False, True, False, True]),
                   ("under", 3, 1, (1,), False),
                   ((0, 1, 3, 2), (1, 0, 2, 3), (9, 2, 3, 498), (False, False, False, True)))

    def test_overs(self):
        for turned in ([False] * 4, [True, True, False, False], [False, True, True, False]):
            self.check(([0, 1, 2, 3], [0, 3, 2, 1], [9, 2, 3, 17], turned), ("overs", 3, 3, (2, 1), True),
                       ((0, 1, 2, 3), (0, 3, 2, 1), (9, 2, 3, 2), tuple(turned)))
        self.check(([1, 0], [0, 1], [16, 5], [False, True]), ("overs", 0, 3, (1,), True),
                   ((1, 0), (0, 1), (1, 5), (False, True)))

    def test_unders(self):
        for turned in ([False] * 4, [True, True, False, False], [False, True, True, False]):
            self.check(([0, 3, 2, 1], [1, 0, 2, 3], [9, 2, 3, 17], turned), ("unders", 3, 3, (2, 1), False),
                       ((0, 3, 2, 1), (1, 0, 2, 3), (9, 2, 3, 2), tuple(turned)))
        self.check(([1, 0], [0, 1], [5, 16], [True, False]), ("unders", 1, 3, (0,), False),
                   ((1, 0), (0, 1), (5, 1), (True, False)))

    def test_the_bound_of_overs_and_unders(self):
        for length, times in ((6, 1), (10, 1), (11, 2), (15, 2), (16, 3), (5 * 10 ** 28, 10 ** 28 - 1),
                              (5 * 10 ** 28 + 1, 10 ** 28)):
            left = length - 5 * times
            self.check(([0, 1, 2, 3], [0, 3, 2, 1], [9, 2, 3, length], [True, False, False, False]),
                       ("overs", 3, times, (2, 1), True),
                       ((0, 1, 2, 3), (0, 3, 2, 1), (9, 2, 3, left), (True, False, False, False)))
            self.check(([0, 3, 2, 1], [1, 0, 2, 3], [9, 2, 3, length], [True, False, False, False]),
                       ("unders", 3, times, (2, 1), False),
                       ((0, 3, 2, 1), (1, 0, 2, 3), (9, 2, 3, left), (True, False, False, False)))

    def test_a_winner_just_as_long_as_the_letters_behind_it(self):
        for length in (3, 4, 5):
            self.check(([0, 1, 2, 3], [0, 3, 2, 1], [9, 2, 3, length], [False] * 4), ("over", 3, 1, (1,), True),
                       ((0, 1, 2, 3), (0, 3, 1, 2), (9, 2, 3, length - 2), (False,) * 4))
            self.check(([0, 3, 2, 1], [1, 0, 2, 3], [9, 2, 3, length], [False] * 4), ("under", 3, 1, (1,), False),
                       ((0, 3, 1, 2), (1, 0, 2, 3), (9, 2, 3, length - 2), (False,) * 4))

    def test_the_sum_is_over_the_letters_behind_the_winner_alone(self):
        self.check(([0, 1, 2], [0, 2, 1], [100, 4, 9], [False] * 3), ("overs", 2, 2, (1,), True),
                   ((0, 1, 2), (0, 2, 1), (100, 4, 1), (False,) * 3))
        self.check(([0, 2, 1], [1, 0, 2], [100, 4, 9], [False] * 3), ("unders", 2, 2, (1,), False),
                   ((0, 2, 1), (1, 0, 2), (100, 4, 1), (False,) * 3))

    def test_great_lengths(self):
        self.check(([0, 1], [1, 0], [1, GREATEST - 1], [False, False]), ("overs", 1, GREATEST - 2, (0,), True),
                   ((0, 1), (1, 0), (1, 1), (False, False)))
        self.check(([0, 1], [1, 0], [GREATEST - 1, 1], [False, False]), ("unders", 0, GREATEST - 2, (1,), False),
                   ((0, 1), (1, 0), (1, 1), (False, False)))
        self.check(([0, 1], [1, 0], [1, GREATEST - 1], [False, True]), ("over", 1, 1, (0,), True),
                   ((0, 1), (0, 1), (1, GREATEST - 2), (True, True)))
        self.check(([0, 1], [1, 0], [GREATEST - 1, 1], [True, False]), ("under", 0, 1, (1,), False),
                   ((1, 0), (1, 0), (GREATEST - 2, 1), (True, True)))


class AsThePointTells(Timed):
    def test_next_steps_of_many_rests(self):
        words = {}
        for rest in many_rests():
            told = step_told(rest)
            step = next_step(rest)
            self.assertIsInstance(step, KINDS[told[0]])
            self.assertEqual(facts(step, rest), told + (told[0] in ("even", "over", "overs"),))
            self.assertEqual(told_rest(step.behind(rest)), behind_told(rest, told))
            words[told[0]] = words.get(told[0], 0) + 1
        self.assertEqual(sorted(words), sorted(KINDS))
        self.assertGreater(min(words.values()), 100, words)

    def test_steps_made_by_hand_answer_as_the_told_ones(self):
        for rest in many_rests():
            step = next_step(rest)
            made = by_hand(step.word(), step.winner, step.times, step.losers(rest))
            self.assertEqual(facts(made, rest), facts(step, rest))
            self.assertEqual(rest_fields(made.behind(rest)), rest_fields(step.behind(rest)))

    def test_steps_that_fit_but_are_not_the_next_one(self):
        for rest in small_rests():
            for told in fitting(rest):
                step = by_hand(*told)
                self.assertEqual(facts(step, rest)[:4], told)
                self.assertEqual(told_rest(step.behind(rest)), behind_told(rest, told))

    def test_the_size_becomes_less(self):
        for rest in many_rests():
            self.assertLess(next_step(rest).behind(rest).size, rest.size)

    def test_kinds(self):
        for rest in many_rests():
            step = next_step(rest)
            self.assertIsInstance(step, Step)
            self.assertIs(type(step.word()), str)
            self.assertEqual((type(step.winner), type(step.times)), (int, int))
            self.assertIs(type(step.losers(rest)), tuple)
            self.assertIs(type(step.own_first()), bool)
            behind = step.behind(rest)
            self.assertIs(type(behind), Rest)
            for row in told_rest(behind):
                self.assertIs(type(row), tuple)
            self.assertEqual({type(turn) for turn in behind.turned}, {bool})
            self.assertIs(type(behind.size), int)

    def test_classes(self):
        for kind in KINDS.values():
            self.assertTrue(issubclass(kind, Step) and kind is not Step)


class Unchanged(Timed):
    def test_the_rest_handed_in_stays(self):
        for rest in many_rests():
            ahead = rest_fields(rest)
            step = next_step(rest)
            step.losers(rest)
            step.behind(rest)
            self.assertEqual(rest_fields(rest), ahead)

    def test_the_same_again(self):
        for rest in many_rests():
            one, two = next_step(rest), next_step(rest)
            self.assertEqual(facts(one, rest), facts(two, rest))
            self.assertEqual(facts(one, rest), facts(one, rest))
            self.assertEqual(rest_fields(one.behind(rest)), rest_fields(two.behind(rest)))
            self.assertEqual(rest_fields(one.behind(rest)), rest_fields(one.behind(rest)))

    def test_a_step_answers_for_the_rest_told(self):
        one = Rest([0, 1, 2, 3], [0, 3, 2, 1], [9, 2, 3, 40], [False] * 4)
        two = Rest([0, 1, 2, 3], [3, 0, 2, 1], [1, 2, 1, 40], [False] * 4)
        step = Overs(3, 2)
        for _ in range(2):
            self.assertEqual((step.losers(one), step.behind(one).lengths), ((2, 1), (9, 2, 3, 30)))
            self.assertEqual((step.losers(two), step.behind(two).lengths), ((0, 2, 1), (1, 2, 1, 32)))
        turned = Rest([0, 1, 2, 3], [0, 3, 2, 1], [9, 2, 3, 40], [False] * 3 + [True])
        step = Over(3, 1)
        for _ in range(2):
            self.assertEqual(step.behind(one).bottom, (0, 3, 1, 2))
            self.assertEqual(step.behind(turned).bottom, (0, 1, 3, 2))

    def test_by_the_names_of_the_arguments(self):
        straight, turned = [False, False], [False, True]
        for rest, step, left in (
                (Rest([1, 0], [1, 0], [1, 5], straight), Home(winner=0), (0, 5)),
                (Rest([0, 1], [1, 0], [5, 5], straight), Even(winner=1, loser=0), (5, 0)),
                (Rest([0, 1], [1, 0], [1, 5], turned), Over(winner=1, loser=0), (1, 4)),
                (Rest([1, 0], [0, 1], [1, 5], turned), Under(winner=1, loser=0), (1, 4)),
                (Rest([0, 1], [1, 0], [1, 5], straight), Overs(winner=1, times=4), (1, 1)),
                (Rest([1, 0], [0, 1], [1, 5], straight), Unders(winner=1, times=4), (1, 1))):
            self.assertEqual(facts(next_step(rest=rest), rest), facts(step, rest))
            self.assertEqual(step.losers(rest=rest), step.losers(rest))
            self.assertEqual(step.behind(rest=rest).lengths, left)


class FirstReturns(Timed):
    def check(self, rest, step):
        """From each place that stays: the way to the first one that stays again is as 3.4 tells."""
        top, bottom, lengths, turned, size = rest_fields(rest)
        gone, letters = gone_rows(top, bottom, lengths, turned), letters_of(top, lengths)
        behind = step.behind(rest)
        gone_behind, letters_behind = gone_rows(*told_rest(behind)), letters_of(behind.top, behind.lengths)
        losers = step.losers(rest)
        for x in range(behind.size):
            way = first_return(gone, x, behind.size)
            self.assertEqual(way[-1], gone_behind[x])
            letter = letters_behind[x]
            asked = [letter]
            if letter in losers:
                winners = [step.winner] * step.times
                asked = [letter] + winners if step.own_first() else winners + [letter]
            self.assertEqual([letters[y] for y in way[:-1]], asked)
        if step.word() == "home":
            last = size - 1
            for x in range(behind.size, size):
                self.assertEqual(gone[x], behind.size + last - x if turned[step.winner] else x)

    def test_next_steps(self):
        for rest in small_rests():
            self.check(rest, next_step(rest))

    def test_other_steps_that_fit(self):
        for rest in small_rests():
            for told in fitting(rest):
                self.check(rest, by_hand(*told))

    def test_one_after_the_other(self):
        for told in drawn_told_lines(7, 12, 60):
            rest = rest_of(Line(*told))
            while rest.size > 0:
                step = next_step(rest)
                self.check(rest, step)
                rest = step.behind(rest)


if __name__ == "__main__":
    unittest.main()
