"""What the document promises over the whole program: the interface, and that nothing is changed or kept."""

import importlib
import inspect
import unittest

from relaid.addresses import address, place
from relaid.arches import Arches, arch_above, arch_below
from relaid.charts import Chart
from relaid.corners import corner_ends, corner_turns, crossings_of, even_sets, handles_of
from relaid.desk import Desk
from relaid.errors import LineError
from relaid.families import family, led, over, under
from relaid.going import comes, goes, piece_at
from relaid.joins import back_line, joined, repeated
from relaid.lines import Line
from relaid.papers import bands_led, examined, paper_of
from relaid.plain import plain, same
from relaid.rests import Rest, letter_at, rest_goes, rest_of
from relaid.rounds import after, between, round_length, rounds
from relaid.steps import Even, Home, Over, Overs, Step, Under, Unders, next_step
from relaid.strands import loops_and_ways, strand, strands, together
from relaid.texts import read, written
from relaid.visits import band_visits, gathered, visits
from samples import Timed

# By module: each function with its arguments.
FUNCTIONS = {
    "going": {"piece_at": "line x", "goes": "line x", "comes": "line x"},
    "texts": {"written": "line", "read": "text"},
    "rests": {"rest_of": "line", "letter_at": "rest y", "rest_goes": "rest y"},
    "steps": {"next_step": "rest"},
    "papers": {"paper_of": "chart", "examined": "line paper", "bands_led": "line paper"},
    "addresses": {"address": "chart x", "place": "chart told"},
    "rounds": {"after": "chart x goings", "round_length": "chart x", "rounds": "chart", "between": "chart x y"},
    "visits": {"visits": "chart x goings", "gathered": "chart x goings weights", "band_visits": "chart"},
    "plain": {"plain": "line", "same": "one two"},
    "joins": {"joined": "one two", "back_line": "line", "repeated": "line times"},
    "arches": {"arch_above": "arches x", "arch_below": "arches x"},
    "strands": {"strand": "arches x", "together": "arches x y", "strands": "arches", "loops_and_ways": "arches"},
    "families": {"over": "order", "under": "order", "family": "order", "led": "one two"},
    "corners": {"corner_ends": "order", "corner_turns": "order", "handles_of": "order", "crossings_of": "order",
                "even_sets": "order"},
}

# By module: each class with what it is made of.
CLASSES = {
    "lines": {"Line": "lengths order turned"},
    "rests": {"Rest": "top bottom lengths turned"},
    "steps": {"Home": "winner", "Even": "winner loser", "Over": "winner loser", "Under": "winner loser",
              "Overs": "winner times", "Unders": "winner times"},
    "charts": {"Chart": "line"},
    "arches": {"Arches": "above below"},
    "desk": {"Desk": "text"},
}

FIELDS = {
    "Line": "lengths order turned starts laid size",
    "Rest": "top bottom lengths turned size",
    "Step": "winner times",
    "Chart": "line rests steps towers bands",
    "Arches": "above below size line chart",
}

METHODS = {
    Step: {"word": "", "losers": "rest", "own_first": "", "behind": "rest"},
    Desk: {"do": "row", "ask": "row", "left": "", "text": ""},
}

TOLD = ([3, 1, 4], [2, 0, 1], [True, False, True])
PAPER = [("under", 0, 1), ("over", 1, 0), ("even", 1, 0), ("home", 0, 0)]
BLOCKS = ([5, 1, 2, 4], [3, 9])


def line():
    return Line(*TOLD)


def chart():
    return Chart(Line([6, 4], [1, 0]))


def arches():
    return Arches(*BLOCKS)


def fitting_steps():
    """Each of the six steps, with a rest that it fits to."""
    rows = ([0, 1], [1, 0])
    return [(Home(1), Rest([0, 1], [0, 1], [2, 3], [True, False])), (Even(1, 0), Rest(*rows, [3, 3], [True, False])),
            (Over(1, 0), Rest(*rows, [2, 5], [False, True])), (Under(0, 1), Rest(*rows, [5, 2], [True, True])),
            (Overs(1, 2), Rest(*rows, [2, 5], [True, False])), (Unders(0, 2), Rest(*rows, [5, 2], [False, True]))]


def questions():
    """Each function and class with some things to hand in, made anew each time."""
    order = [2, 0, 3, 1]
    told = [(Line, TOLD), (Line, TOLD[:2]), (Rest, ([0, 2], [2, 0], [3, 0, 1], [True, False, False])),
            (Chart, (line(),)), (Arches, BLOCKS), (written, (line(),)), (read, ("pieces 6 4\nlaid 1- 0\n",)),
            (rest_of, (line(),)),
            (paper_of, (chart(),)), (examined, (chart().line, PAPER)), (examined, (chart().line, PAPER[1:])),
            (bands_led, (chart().line, PAPER)), (bands_led, (line(), PAPER)), (rounds, (chart(),)),
            (band_visits, (chart(),)), (plain, (line(),)), (same, (line(), plain(line()))), (back_line, (line(),)),
            (joined, (line(), back_line(line()))), (strands, (arches(),)), (loops_and_ways, (arches(),)),
            (next_step, (rest_of(line()),)), (led, (order, [3, 2, 1, 0])), (led, ([3, 2, 1, 0], [3, 1, 2, 0]))]
    told += [(asked, (line(), 5)) for asked in (piece_at, goes, comes)]
    told += [(asked, (rest_of(line()), 5)) for asked in (letter_at, rest_goes)]
    told += [(asked, (chart(), 7)) for asked in (address, round_length)]
    told += [(asked, (chart(), 7, 3)) for asked in (after, between, visits)]
    told += [(between, (chart(), 7, 0)), (place, (chart(), (0, 1, 4))), (gathered, (chart(), 7, 3, [-5, 8]))]
    told += [(repeated, (line(), times)) for times in (-2, 0, 3)]
    told += [(asked, (arches(), 4)) for asked in (arch_above, arch_below, strand)] + [(together, (arches(), 4, 9))]
    told += [(asked, (order,)) for asked in (over, under, family, corner_ends, corner_turns, handles_of, crossings_of,
                                             even_sets)]
    for step, rest in fitting_steps():
        told += [(step.losers, (rest,)), (step.behind, (rest,)), (step.word, ()), (step.own_first, ())]
    return [(asked, tuple(list(one) if isinstance(one, list) else one for one in handed)) for asked, handed in told]


def frozen(value):
    """A value with all that it holds, and the kinds of it, so that two can be compared."""
    if isinstance(value, (list, tuple)):
        return (type(value).__name__, tuple(frozen(part) for part in value))
    if type(value).__module__.startswith("relaid."):
        return (type(value).__name__, tuple((name, frozen(vars(value)[name])) for name in sorted(vars(value))))
    return (type(value).__name__, value)


def spoil(value):
    """Changes each list that was handed over."""
    if isinstance(value, tuple):
        for part in value:
            spoil(part)
    if isinstance(value, list):
        for part in value:
            spoil(part)
        value.reverse()
        value.append(99)
        value[0] = -7


def kinds_within(value):
    """The kinds of all values that an object's fields hold, and those that theirs hold."""
    if isinstance(value, (list, tuple, dict)):
        return {type(value)}.union(*[kinds_within(part) for part in value])
    if type(value).__module__.startswith("relaid."):
        return set().union(*[kinds_within(part) for part in vars(value).values()])
    return {type(value)}


class Interface(unittest.TestCase):
    def module(self, name):
        return importlib.import_module("relaid." + name)

    def arguments(self, asked):
        return " ".join(inspect.signature(asked).parameters)

    def test_functions(self):
        for name, functions in FUNCTIONS.items():
            for function, told in functions.items():
                self.assertEqual(self.arguments(getattr(self.module(name), function)), told, (name, function))

    def test_classes(self):
        for name, classes in CLASSES.items():
            for made, told in classes.items():
                self.assertEqual(self.arguments(getattr(self.module(name), made)), told, (name, made))
        for made in (Home, Even, Over, Under, Overs, Unders):
            self.assertEqual(made.__bases__, (Step,))

    def test_turns_may_be_left_out(self):
        defaults = [one.default for one in inspect.signature(Line).parameters.values()]
        self.assertEqual(defaults, [inspect.Parameter.empty, inspect.Parameter.empty, None])

    def test_fields(self):
        made = [("Line", line()), ("Rest", rest_of(line())), ("Chart", chart()), ("Arches", arches())]
        for name, one in made + [("Step", step) for step, _ in fitting_steps()]:
            for field in FIELDS[name].split():
                self.assertIn(field, vars(one))

    def test_methods(self):
        for made, methods in METHODS.items():
            for method, told in methods.items():
                self.assertEqual(self.arguments(getattr(made, method)).split()[1:], told.split(), method)

    def test_no_method_but_the_making(self):
        for made in (Line, Chart):
            methods = [name for name, value in vars(made).items() if inspect.isfunction(value)]
            self.assertEqual(methods, ["__init__"])

    def test_each_function_is_asked_here(self):
        asked = {one.__name__ for one, _ in questions()}
        for functions in list(FUNCTIONS.values()) + [CLASSES[name] for name in ("lines", "rests", "charts", "arches")]:
            self.assertEqual(set(functions) - asked, set())


class NothingIsChangedOrKept(Timed):
    def test_what_is_handed_in_is_not_changed(self):
        for asked, handed in questions():
            before = frozen(handed)
            asked(*handed)
            self.assertEqual(frozen(handed), before, asked)

    def test_what_is_told_is_the_askers_own(self):
        for asked, handed in questions():
            told = asked(*handed)
            kept = frozen(told)
            spoil(told)
            self.assertEqual(frozen(asked(*handed)), kept, asked)

    def test_what_was_handed_in_is_kept_as_a_copy(self):
        for asked, handed in questions():
            told = asked(*handed)
            kept = frozen(told)
            spoil(handed)
            self.assertEqual(frozen(told), kept, asked)

    def test_the_same_question_has_the_same_answer(self):
        for (asked, handed), (again, anew) in zip(questions(), questions()):
            told = frozen(asked(*handed))
            self.assertEqual(frozen(asked(*handed)), told, asked)
            self.assertEqual(frozen(again(*anew)), told, asked)

    def test_lists_and_tuples_alike(self):
        for asked, handed in questions():
            if asked not in (examined, bands_led):
                told = frozen(asked(*handed))
                turned = [tuple(one) if isinstance(one, list) else one for one in handed]
                self.assertEqual(frozen(asked(*turned)), told, asked)

    def test_fields_that_hold_rows_are_tuples(self):
        made = [line(), rest_of(line()), chart(), arches(), plain(line()), Chart(line())]
        for one in made + [step for step, _ in fitting_steps()]:
            self.assertEqual(kinds_within(one) & {list, dict, set}, set(), one)

    def test_what_tells_rows_tells_lists(self):
        order = [2, 0, 3, 1]
        lists = [paper_of(chart()), bands_led(chart().line, PAPER), rounds(chart()), band_visits(chart()),
                 strands(arches()), family(order), led(order, order), corner_turns(order), crossings_of(order)]
        lists += list(corner_ends(order))
        for told in lists:
            self.assertIs(type(told), list)
        tuples = [address(chart(), 7), visits(chart(), 7, 3), strand(arches(), 4), loops_and_ways(arches()),
                  over(order), under(order), corner_ends(order)]
        tuples += paper_of(chart()) + bands_led(chart().line, PAPER) + rounds(chart()) + band_visits(chart())
        tuples += strands(arches()) + family(order) + crossings_of(order)
        tuples += [step.losers(rest) for step, rest in fitting_steps()]
        for told in tuples:
            self.assertIs(type(told), tuple)


class Refusals(Timed):
    def test_wrong_inputs_change_nothing_either(self):
        wrong = [(Line, ([], [], [])), (Line, ([1, 2], [0, 0], None)), (Line, ([1, 2], [1, 0], [True])),
                 (goes, (line(), 8)), (read, ("pieces 1\n",)), (address, (chart(), 10)), (place, (chart(), (1, 0, 0))),
                 (joined, (line(), chart().line)), (Arches, ([1, 2], [4])), (strand, (arches(), 12)),
                 (together, (arches(), 0, -1)), (over, ([0, 1],)), (led, ([1, 0], [0, 1])), (family, ([0, 0],)),
                 (corner_ends, ([1],)), (even_sets, (list(range(13)),)), (Desk, ("",)),
                 (repeated, (Line([3 * (p % 5) + 1 for p in range(24)], [(7 * p + 5) % 24 for p in range(24)]), 5))]
        for asked, handed in wrong:
            before = frozen(handed)
            refusals = []
            for _ in range(2):
                with self.assertRaises(LineError) as caught:
                    asked(*handed)
                refusals.append(type(caught.exception))
                self.assertEqual(frozen(handed), before)
            self.assertIs(refusals[0], refusals[1])
            self.assertEqual(refusals[0].__bases__, (LineError,))


if __name__ == "__main__":
    unittest.main()
