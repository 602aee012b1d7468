"""Questions: what a row of the desk asks of a line's chart; None where the row is to be refused."""

from relaid.addresses import address, place
from relaid.errors import BadAddress, Outside
from relaid.papers import paper_of
from relaid.rounds import after, between, round_length, rounds
from relaid.rows import goings_told, number_told
from relaid.visits import visits


def numbers_asked(words):
    # Of all questions one alone asks for goings back.
    if words[0] == "goes" and len(words) == 3:
        return [number_told(words[1]), goings_told(words[2])]
    return [number_told(word) for word in words[1:]]


def place_or_none(chart, told):
    try:
        return place(chart, told)
    except BadAddress:
        return None


def or_none(number):
    return "none" if number is None else number


def bands_told(chart):
    return [(start, width, height, "turned" if turned else "plain") for start, width, height, turned in chart.bands]


def in_one_row(rows):
    parts = []
    for row in rows:
        parts.extend(row)
    return parts


def parts_of_line(chart, word):
    if word == "rounds":
        return in_one_row(rounds(chart))
    if word == "bands":
        return in_one_row(bands_told(chart))
    if word == "paper":
        return in_one_row(paper_of(chart))
    return None


def parts_of_place(chart, word, x):
    if word == "round":
        return [round_length(chart, x)]
    if word == "address":
        return list(address(chart, x))
    return None


def parts_of_way(chart, word, x, number):
    if word == "between":
        return [or_none(between(chart, x, number))]
    if abs(number) > 10 ** 60:
        return None
    if word == "goes":
        return [after(chart, x, number)]
    if word == "visits":
        return list(visits(chart, x, number))
    return None


def parts_told(chart, word, numbers):
    if len(numbers) == 0:
        return parts_of_line(chart, word)
    if len(numbers) == 1:
        return parts_of_place(chart, word, numbers[0])
    if len(numbers) == 2:
        return parts_of_way(chart, word, numbers[0], numbers[1])
    if len(numbers) == 3 and word == "place":
        return [or_none(place_or_none(chart, tuple(numbers)))]
    return None


def answer(chart, row):
    words = row.split(" ")
    numbers = numbers_asked(words)
    if None in numbers:
        return None
    try:
        parts = parts_told(chart, words[0], numbers)
    except Outside:
        return None
    return None if parts is None else " ".join([str(part) for part in parts])
