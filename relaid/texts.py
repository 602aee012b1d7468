"""Lines as texts: a row of lengths, and a row of the pieces as they are laid."""

from relaid.errors import BadText
from relaid.lines import Line

MOST_FIGURES = 31


def laid_word(line, piece):
    return str(piece) + "-" if line.turned[piece] else str(piece)


def written(line):
    lengths = " ".join(["pieces"] + [str(length) for length in line.lengths])
    laid = " ".join(["laid"] + [laid_word(line, piece) for piece in line.order])
    return f"{lengths}\n{laid}\n"


def is_number(word, figures):
    # The figures are counted first: Python refuses to read very long numbers, with an error of its own.
    if word == "" or len(word) > figures:
        return False
    if word[0] == "0" and word != "0":
        return False
    return all([sign in "0123456789" for sign in word])


def without_turn(word):
    return word[:-1] if word.endswith("-") else word


def is_length_row(row):
    words = row.split(" ")
    return words[0] == "pieces" and all([is_number(word, MOST_FIGURES) for word in words[1:]])


def is_laid_row(row):
    words = row.split(" ")
    return words[0] == "laid" and all([is_number(without_turn(word), MOST_FIGURES) for word in words[1:]])


def refuse_rows(rows):
    # What stands behind the last line feed is no ended row, so the last entry is never one.
    if len(rows) < 2 or not is_length_row(rows[0]):
        raise BadText(1)
    if len(rows) < 3 or not is_laid_row(rows[1]):
        raise BadText(2)
    if len(rows) > 3 or rows[2] != "":
        raise BadText(3)


def read(text):
    rows = text.split("\n")
    refuse_rows(rows)
    lengths = [int(word) for word in rows[0].split(" ")[1:]]
    words = rows[1].split(" ")[1:]
    order = [int(without_turn(word)) for word in words]
    # Asked piece by piece, so that an order which names no piece of the line is left to the line to refuse.
    turned = [f"{piece}-" in words for piece in range(len(lengths))]
    return Line(lengths, order, turned)
