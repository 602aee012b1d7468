import unittest
from itertools import combinations
from random import Random

from order_samples import drawn_orders, many_whole_orders, no_orders, small_orders, whole_orders
from relaid.charts import Chart
from relaid.corners import corner_ends, corner_turns, crossings_of, even_sets, handles_of
from relaid.errors import BadOrder, TooMany
from relaid.families import led, over, under
from relaid.lines import Line
from samples import Timed

ALL_FIVE = (corner_ends, corner_turns, handles_of, crossings_of, even_sets)


def meeting(order):
    """The pairs of ends that meet, by the words of 11.2."""
    last = len(order) - 1
    pairs = [(("right", piece), ("left", piece + 1)) for piece in range(last)]
    pairs += [(("right", order[at]), ("left", order[at + 1])) for at in range(last)]
    return pairs + [(("left", 0), ("left", order[0])), (("right", last), ("right", order[last]))]


def joined_ends(order):
    """Lists of the corners of the left and of the right ends, found by going from end to end that meets it."""
    meets = meeting(order)
    corners = {}
    for end in [(side, piece) for piece in range(len(order)) for side in ("left", "right")]:
        if end not in corners:
            number = len(set(corners.values()))
            fresh = {end}
            while fresh:
                corners.update(dict.fromkeys(fresh, number))
                fresh = {two if one in fresh else one for one, two in meets if one in fresh or two in fresh}
                fresh -= set(corners)
    return tuple([corners[(side, piece)] for piece in range(len(order))] for side in ("left", "right"))


def crossing(order):
    return [(p, q) for p, q in combinations(range(len(order)), 2) if order.index(q) < order.index(p)]


def even_sets_counted(order):
    pairs = crossing(order)
    found = 0
    for many in range(len(order) + 1):
        for members in combinations(range(len(order)), many):
            within = [pair for pair in pairs if pair[0] in members and pair[1] in members]
            found += (many + len(within)) % 2 == 0
    return found


def full_orders():
    """Orders of many pieces, up to 24."""
    told = [order for pieces in (8, 13, 23, 24) for order in drawn_orders(pieces, 10)]
    return told + [tuple(range(24)), tuple(range(23, -1, -1)), tuple(range(1, 24)) + (0,), (23,) + tuple(range(23))]


class Ends(Timed):
    def test_told(self):
        self.assertEqual(corner_ends([0]), ([0], [1]))
        self.assertEqual(corner_ends([0, 1]), ([0, 1], [1, 2]))
        self.assertEqual(corner_ends((1, 0)), ([0, 0], [0, 0]))
        self.assertEqual(corner_ends([2, 1, 0]), ([0, 1, 0], [1, 0, 1]))
        self.assertEqual(corner_ends([3, 2, 1, 0]), ([0] * 4, [0] * 4))
        self.assertEqual(corner_ends(tuple(range(24))), (list(range(24)), list(range(1, 25))))

    def test_as_joined_end_by_end(self):
        for order in small_orders(1, 5) + drawn_orders(6, 60) + drawn_orders(7, 60) + full_orders():
            for kind in (list, tuple):
                self.assertEqual(corner_ends(kind(order)), joined_ends(order))

    def test_numbered_as_they_come(self):
        for order in small_orders(1, 5) + full_orders():
            lefts, rights = corner_ends(order)
            numbers = [number for both in zip(lefts, rights) for number in both]
            self.assertEqual(list(dict.fromkeys(numbers)), list(range(max(numbers) + 1)))

    def test_ends_that_meet_are_of_one_corner(self):
        for order in small_orders(1, 5) + full_orders():
            lefts, rights = corner_ends(order)
            for one, two in meeting(order):
                corners = [(lefts if side == "left" else rights)[piece] for side, piece in (one, two)]
                self.assertEqual(corners[0], corners[1])


class Turns(Timed):
    def test_told(self):
        self.assertEqual(corner_turns([0]), [0, 0])
        self.assertEqual(corner_turns([0, 1]), [0, 1, 0])
        self.assertEqual(corner_turns([1, 0]), [1])
        self.assertEqual(corner_turns((2, 1, 0)), [1, 1])
        self.assertEqual(corner_turns((3, 2, 1, 0)), [3])
        self.assertEqual(corner_turns(tuple(range(24))), [0] + [1] * 23 + [0])

    def test_cuts_by_corner(self):
        for order in small_orders(1, 5) + drawn_orders(6, 60) + drawn_orders(7, 60) + full_orders():
            lefts, rights = joined_ends(order)
            corners = range(max(lefts + rights) + 1)
            self.assertEqual(corner_turns(order), [rights[:-1].count(corner) for corner in corners])

    def test_in_sum_one_less_than_pieces(self):
        for order in small_orders(1, 6) + full_orders():
            self.assertEqual(sum(corner_turns(order)), len(order) - 1)


class Handles(Timed):
    def test_told(self):
        self.assertEqual([handles_of(order) for order in ([0], [0, 1], (1, 0), [2, 1, 0], (3, 2, 1, 0))],
                         [0, 0, 1, 1, 2])
        self.assertEqual([handles_of(tuple(range(pieces - 1, -1, -1))) for pieces in range(1, 25)],
                         [pieces // 2 for pieces in range(1, 25)])
        self.assertEqual(handles_of(tuple(range(24))), 0)

    def test_by_the_number_of_corners(self):
        for order in small_orders(1, 6) + full_orders():
            lefts, rights = joined_ends(order)
            twice = len(order) - len(set(lefts + rights)) + 1
            self.assertEqual(twice % 2, 0)
            self.assertGreaterEqual(twice, 0)
            self.assertEqual(handles_of(order), twice // 2)


class Crossings(Timed):
    def test_told(self):
        self.assertEqual(crossings_of([0]), [])
        self.assertEqual(crossings_of(tuple(range(24))), [])
        self.assertEqual(crossings_of([1, 0]), [(0, 1)])
        self.assertEqual(crossings_of((2, 0, 3, 1)), [(0, 2), (1, 2), (1, 3)])
        self.assertEqual(crossings_of([2, 1, 0]), [(0, 1), (0, 2), (1, 2)])

    def test_by_the_words_of_the_document(self):
        for order in small_orders(1, 6) + full_orders():
            for kind in (list, tuple):
                self.assertEqual(crossings_of(kind(order)), crossing(order))

    def test_all_cross(self):
        for pieces in range(1, 25):
            self.assertEqual(crossings_of(list(range(pieces - 1, -1, -1))), list(combinations(range(pieces), 2)))


class EvenSets(Timed):
    def test_told(self):
        self.assertEqual([even_sets(order) for order in ([0], [0, 1], (1, 0), [0, 1, 2])], [1, 2, 1, 4])
        # All of 0, 1 and 2 cross: three pieces and three pairs are even together, two pieces and one pair are not.
        self.assertEqual(even_sets([2, 1, 0]), 2)

    def test_all_sets_gone_through(self):
        for order in small_orders(1, 5) + drawn_orders(6, 60) + drawn_orders(7, 40):
            for kind in (list, tuple):
                self.assertEqual(even_sets(kind(order)), even_sets_counted(order))

    def test_up_to_twelve_pieces(self):
        for pieces in range(8, 13):
            for order in drawn_orders(pieces, 2) + [tuple(range(pieces)), tuple(range(pieces - 1, -1, -1))]:
                self.assertEqual(even_sets(order), even_sets_counted(order))

    def test_too_many_pieces(self):
        for pieces in range(13, 25):
            for order in drawn_orders(pieces, 2) + [tuple(range(pieces)), tuple(range(pieces - 1, -1, -1))]:
                self.refused(TooMany, even_sets, order)
                self.refused(TooMany, even_sets, list(order))
                for asked in ALL_FIVE[:-1]:
                    asked(order)


class Refusals(Timed):
    def test_no_order(self):
        for order in no_orders(1, 24):
            for kind in (list, tuple):
                for asked in ALL_FIVE:
                    self.refused(BadOrder, asked, kind(order))

    def test_ahead_of_too_many(self):
        for pieces in (13, 24, 25, 40):
            wrong = [pieces - 1] + list(range(pieces - 1))
            wrong[-1] = wrong[0]
            for order in (wrong, list(range(1, pieces + 1)), [-1] + list(range(1, pieces))):
                for asked in ALL_FIVE:
                    self.refused(BadOrder, asked, order)
                    self.refused(BadOrder, asked, tuple(order))


class Kinds(Timed):
    def whole_numbers(self, told, kind):
        self.assertIs(type(told), kind)
        self.assertEqual({type(number) for number in told} - {int}, set())

    def test_kinds(self):
        for order in small_orders(1, 4) + full_orders():
            ends = corner_ends(order)
            self.assertIs(type(ends), tuple)
            for told in ends + (corner_turns(order),):
                self.whole_numbers(told, list)
            self.assertIs(type(handles_of(order)), int)
            self.assertIs(type(crossings_of(order)), list)
            for pair in crossings_of(order):
                self.whole_numbers(pair, tuple)
            if len(order) <= 12:
                self.assertIs(type(even_sets(order)), int)

    def test_what_is_handed_in_stays(self):
        for order in small_orders(1, 4) + full_orders():
            handed = list(order)
            for asked in ALL_FIVE[:4] if len(order) > 12 else ALL_FIVE:
                told = asked(handed)
                self.assertEqual(handed, list(order))
                self.assertEqual(asked(order), told)

    def test_new_lists(self):
        for order in small_orders(2, 4) + full_orders():
            kept = corner_ends(order)
            for told in corner_ends(order) + (corner_turns(order), crossings_of(order)):
                told.append(77)
                told.reverse()
            self.assertEqual(corner_ends(order), kept)
            self.assertEqual(corner_ends(order), joined_ends(order))
            self.assertEqual(sum(corner_turns(order)), len(order) - 1)
            self.assertEqual(crossings_of(order), crossing(order))

    def test_by_the_name_of_the_argument(self):
        self.assertEqual([asked(order=[1, 0]) for asked in ALL_FIVE], [([0, 0], [0, 0]), [1], 1, [(0, 1)], 1])


def kept_told(order):
    turns = corner_turns(order)
    return (tuple(sorted(turns)), turns[0], len(turns), handles_of(order), even_sets(order))


class Kept(Timed):
    def test_by_over_and_under(self):
        for order in many_whole_orders():
            self.assertEqual(kept_told(over(order)), kept_told(order))
            self.assertEqual(kept_told(under(order)), kept_told(order))

    def test_where_they_differ_neither_leads_to_the_other(self):
        unlike = 0
        for pieces in (4, 5):
            orders = whole_orders(pieces, pieces)
            for one in orders[::3]:
                for two in orders[::2]:
                    if kept_told(one) != kept_told(two):
                        unlike += 1
                        self.assertIsNone(led(one, two))
        self.assertGreater(unlike, 100)

    def test_even_sets_alone_tell_some_apart(self):
        # Among orders that are alike in all else that is kept.
        found = {}
        for order in whole_orders(6, 6):
            found.setdefault(kept_told(order)[:-1], set()).add(even_sets(order))
        self.assertGreater(max(len(numbers) for numbers in found.values()), 1)


class Bands(Timed):
    def lines_of(self, order):
        draw = Random(repr(order))
        return [Line([draw.randint(1, greatest) for _ in order], order) for greatest in (1, 2, 6, 10 ** 6, 10 ** 28)]

    def test_at_least_one_and_at_most_as_many_as_told(self):
        most = {}
        for order in small_orders(1, 5) + drawn_orders(7, 40) + full_orders():
            for line in self.lines_of(order):
                bands = len(Chart(line).bands)
                self.assertGreaterEqual(bands, 1)
                self.assertLessEqual(bands, len(order) - handles_of(order))
                most[order] = max(bands, most.get(order, 0))
        self.assertTrue(any(most[order] == len(order) - handles_of(order) for order in most if handles_of(order) > 0))


if __name__ == "__main__":
    unittest.main()
