import unittest
from itertools import product
from random import Random

from order_samples import (drawn_orders, falls_apart, many_whole_orders, no_orders, orders_of, small_orders,
                           whole_orders)
from relaid.errors import BadOrder, Loose
from relaid.families import family, led, over, under
from relaid.lines import Line
from samples import Timed, first_return, gone_by

DEEDS = {"over": over, "under": under}


def over_told(order):
    """The order over by the words of 10.2: b is taken from the end and put right behind a."""
    rest = list(order)
    b = rest.pop()
    rest.insert(rest.index(len(order) - 1) + 1, b)
    return tuple(rest)


def under_told(order):
    """The order under by the words of 10.2: the pieces, told by their old numbers, stand on the line and are laid."""
    on_line = list(range(len(order)))
    a = on_line.pop()
    on_line.insert(on_line.index(order[-1]) + 1, a)
    return tuple(on_line.index(piece) for piece in order)


def distances(order):
    """By order that is led to: the least number of words that lead there, found step by step."""
    found = {}
    fresh = {order}
    words = 0
    while fresh:
        found.update(dict.fromkeys(fresh, words))
        fresh = {told(one) for one in fresh for told in (over_told, under_told)} - set(found)
        words += 1
    return found


class OverAndUnder(Timed):
    def test_told(self):
        self.assertEqual((over([1, 0]), under([1, 0])), ((1, 0), (1, 0)))
        self.assertEqual((over([2, 1, 0]), under([2, 1, 0])), ((2, 0, 1), (1, 2, 0)))
        self.assertEqual((over((2, 0, 1)), under((2, 0, 1))), ((2, 1, 0), (2, 0, 1)))
        self.assertEqual((over((1, 2, 0)), under((1, 2, 0))), ((1, 2, 0), (2, 1, 0)))
        self.assertEqual((over([3, 1, 4, 0, 2]), under([3, 1, 4, 0, 2])), ((3, 1, 4, 2, 0), (4, 1, 3, 0, 2)))

    def test_by_the_words_of_the_document(self):
        for order in many_whole_orders():
            self.assertEqual(over(order), over_told(order))
            self.assertEqual(under(order), under_told(order))

    def test_the_numbers_under(self):
        for order in many_whole_orders():
            a, b = len(order) - 1, order[-1]
            anew = [piece if piece <= b else b + 1 if piece == a else piece + 1 for piece in order]
            self.assertEqual(under(order), tuple(anew))

    def test_neither_falls_apart(self):
        for order in many_whole_orders():
            for deed in (over, under):
                reached = deed(order)
                self.assertEqual(sorted(reached), list(range(len(order))))
                self.assertFalse(falls_apart(reached))

    def test_kinds_and_what_is_handed_in(self):
        for order in many_whole_orders():
            for deed in (over, under):
                handed = list(order)
                told = deed(handed)
                self.assertEqual(handed, list(order))
                self.assertIs(type(told), tuple)
                self.assertEqual({type(piece) for piece in told}, {int})
                self.assertEqual(told, deed(order))
                handed.reverse()
                self.assertEqual(told, deed(order))

    def test_by_the_name_of_the_argument(self):
        self.assertEqual((over(order=[2, 1, 0]), under(order=[2, 1, 0])), ((2, 0, 1), (1, 2, 0)))


class Refusals(Timed):
    def test_no_order(self):
        for order in no_orders(2, 7):
            for kind in (list, tuple):
                for asked in (over, under, family):
                    self.refused(BadOrder, asked, kind(order))
                self.refused(BadOrder, led, kind(order), (1, 0))
                self.refused(BadOrder, led, [1, 0], kind(order))
                self.refused(BadOrder, led, kind(order), kind(order))

    def test_orders_that_fall_apart(self):
        found = 0
        drawn = drawn_orders(6, 60) + drawn_orders(7, 60) + [tuple(range(6)), tuple(range(7))]
        for order in small_orders(2, 5) + drawn:
            if falls_apart(order):
                found += 1
                for kind in (list, tuple):
                    for asked in (over, under, family):
                        self.refused(Loose, asked, kind(order))
                    self.refused(Loose, led, kind(order), (1, 0))
                    self.refused(Loose, led, [1, 0], kind(order))
                    self.refused(Loose, led, kind(order), kind(order))
            else:
                for asked in (over, under):
                    asked(order)
        self.assertGreater(found, 60)

    def test_no_order_ahead_of_falling_apart(self):
        # The first numbers are as they are where an order falls apart, but it is none.
        for order in ([0], [0, 0], [0, 2], [0, 1, 1], [0, 2, 3], [1, 0, 5], [0, -1], list(range(8)), [0] * 7):
            for asked in (over, under, family):
                self.refused(BadOrder, asked, order)
                self.refused(BadOrder, asked, tuple(order))

    def test_the_first_order_ahead_of_the_second(self):
        loose, wrong = [0, 1], [0, 0]
        self.refused(Loose, led, loose, wrong)
        self.refused(BadOrder, led, wrong, loose)
        self.refused(Loose, led, (0, 2, 1), tuple(range(8)))
        self.refused(BadOrder, led, tuple(range(8)), (0, 2, 1))


class Going(Timed):
    def lines_of(self, order):
        """Small lines of an order, none turned, whose last pieces, as they lie and as laid, are unlike long."""
        pieces = len(order)
        if pieces <= 3:
            rows = list(product((1, 2, 3, 5), repeat=pieces))
        else:
            draw = Random(repr(order))
            rows = [[draw.randint(1, 6) for _ in order] for _ in range(12)]
        return [Line(lengths, order) for lengths in rows if lengths[-1] != lengths[order[-1]]]

    def returned(self, line, size):
        """By place below the size: where one comes, going by the line, when one comes to such a place again."""
        gone = gone_by(line)
        return [first_return(gone, x, size)[-1] for x in range(size)]

    def test_the_last_piece_longer(self):
        met = 0
        for order in many_whole_orders():
            a, b = len(order) - 1, order[-1]
            for line in self.lines_of(order):
                if line.lengths[a] > line.lengths[b]:
                    lengths = list(line.lengths)
                    lengths[a] -= lengths[b]
                    led_to = Line(lengths, over(order))
                    self.assertEqual(led_to.size, line.size - line.lengths[b])
                    self.assertEqual(gone_by(led_to), self.returned(line, led_to.size))
                    met += 1
        self.assertGreater(met, 500)

    def test_the_piece_laid_last_longer(self):
        met = 0
        for order in many_whole_orders():
            a, b = len(order) - 1, order[-1]
            for line in self.lines_of(order):
                if line.lengths[a] < line.lengths[b]:
                    lengths = list(line.lengths)
                    taken = lengths.pop()
                    lengths[b] -= taken
                    lengths.insert(b + 1, taken)
                    led_to = Line(lengths, under(order))
                    self.assertEqual(led_to.size, line.size - line.lengths[a])
                    self.assertEqual(gone_by(led_to), self.returned(line, led_to.size))
                    met += 1
        self.assertGreater(met, 500)


class Families(Timed):
    def test_told(self):
        self.assertEqual(family([1, 0]), [(1, 0)])
        self.assertEqual(family((2, 1, 0)), [(1, 2, 0), (2, 0, 1), (2, 1, 0)])
        self.assertEqual(family([3, 2, 1, 0]), [(1, 3, 0, 2), (1, 3, 2, 0), (2, 0, 3, 1), (2, 1, 3, 0), (3, 0, 2, 1),
                                                (3, 1, 0, 2), (3, 2, 1, 0)])
        self.assertEqual(family([3, 1, 2, 0]), [(1, 2, 3, 0), (2, 3, 0, 1), (2, 3, 1, 0), (3, 0, 1, 2), (3, 1, 2, 0),
                                                (3, 2, 0, 1)])

    def test_all_that_is_led_to_and_no_other(self):
        for order in whole_orders(2, 5):
            for kind in (list, tuple):
                self.assertEqual(family(kind(order)), sorted(distances(order)))

    def test_some_of_six_and_seven(self):
        for order in [(5, 4, 3, 2, 1, 0), (6, 5, 4, 3, 2, 1, 0), (3, 5, 1, 4, 2, 0), (3, 5, 1, 6, 4, 2, 0)]:
            self.assertEqual(family(order), sorted(distances(order)))

    def test_closed(self):
        for order in whole_orders(2, 5):
            told = family(order)
            self.assertIn(order, told)
            self.assertEqual(told, sorted(set(told)))
            for one in told:
                self.assertIn(over(one), told)
                self.assertIn(under(one), told)

    def test_the_same_or_nothing_in_common(self):
        for pieces in range(2, 6):
            told = {order: tuple(family(order)) for order in orders_of(pieces) if not falls_apart(order)}
            for order in told:
                for one in told[order]:
                    self.assertEqual(told[one], told[order])
            self.assertEqual(sorted(order for one in set(told.values()) for order in one), sorted(told))

    def test_numbers_of_families(self):
        self.assertEqual([len({tuple(family(order)) for order in whole_orders(pieces, pieces)})
                          for pieces in range(2, 6)], [1, 1, 2, 4])

    def test_kinds_and_new_lists(self):
        for order in whole_orders(2, 4) + [(6, 5, 4, 3, 2, 1, 0)]:
            handed = list(order)
            told = family(handed)
            self.assertEqual(handed, list(order))
            self.assertIs(type(told), list)
            self.assertEqual({type(one) for one in told}, {tuple})
            self.assertEqual({type(piece) for one in told for piece in one}, {int})
            kept = list(told)
            told.reverse()
            told.append((0, 1))
            self.assertEqual(family(order), kept)
            told.clear()
            self.assertEqual(family(handed), kept)

    def test_by_the_name_of_the_argument(self):
        self.assertEqual(family(order=[1, 0]), [(1, 0)])


class Led(Timed):
    def done(self, order, words):
        for word in words:
            order = DEEDS[word](order)
        return order

    def test_told(self):
        self.assertEqual(led([2, 1, 0], [2, 1, 0]), [])
        self.assertEqual(led([2, 1, 0], (2, 0, 1)), ["over"])
        self.assertEqual(led((2, 1, 0), [1, 2, 0]), ["under"])
        self.assertEqual(led((2, 0, 1), (1, 2, 0)), ["over", "under"])
        self.assertEqual(led((1, 2, 0), (2, 0, 1)), ["under", "over"])

    def test_one_order_twice(self):
        for order in many_whole_orders():
            self.assertEqual(led(order, list(order)), [])

    def test_every_two(self):
        for pieces in range(2, 6):
            orders = whole_orders(pieces, pieces)
            for one in orders:
                found = distances(one)
                for two in orders:
                    words = led(one, two)
                    if two not in found:
                        self.assertIsNone(words)
                        continue
                    self.assertEqual(self.done(one, words), two)
                    self.assertEqual(len(words), found[two])

    def test_some_of_six_and_seven(self):
        none = 0
        for pieces in (6, 7):
            orders = [order for order in drawn_orders(pieces, 30) if not falls_apart(order)][:8]
            for one in orders:
                found = distances(one)
                for two in orders + [max(found, key=lambda order: found[order])]:
                    words = led(one, two)
                    none += words is None
                    self.assertEqual(words is None, two not in found)
                    if words is not None:
                        self.assertEqual(self.done(one, words), two)
                        self.assertEqual(len(words), found[two])
        self.assertGreater(none, 0)

    def test_unlike_numbers_of_pieces(self):
        orders = [tuple(range(pieces - 1, -1, -1)) for pieces in range(2, 8)]
        for one in orders:
            for two in orders:
                if one != two:
                    self.assertIsNone(led(one, two))

    def test_kinds_and_new_lists(self):
        for one, two in (((2, 1, 0), (2, 1, 0)), ((4, 3, 2, 1, 0), over(under((4, 3, 2, 1, 0))))):
            first, second = list(one), list(two)
            told = led(first, second)
            self.assertEqual((first, second), (list(one), list(two)))
            self.assertIs(type(told), list)
            self.assertEqual({type(word) for word in told} - {str}, set())
            kept = list(told)
            told.append("over")
            self.assertEqual(led(one, two), kept)

    def test_by_the_names_of_the_arguments(self):
        self.assertEqual(led(one=[2, 1, 0], two=[2, 0, 1]), ["over"])


if __name__ == "__main__":
    unittest.main()
