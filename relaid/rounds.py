"""Goings on and back by any number, the rounds of a line, and the ways from place to place."""

from relaid.addresses import address, place


def other_offset(band, offset):
    return band[1] - 1 - offset


def address_after(chart, told, goings):
    band = chart.bands[told[0]]
    reached = told[2] + goings
    times_round = reached // band[2]
    # Two times round a turned band undo one another.
    offset = other_offset(band, told[1]) if band[3] and times_round % 2 == 1 else told[1]
    return (told[0], offset, reached % band[2])


def length_of_round(band, offset):
    if band[3] and offset != other_offset(band, offset):
        return 2 * band[2]
    return band[2]


def after(chart, x, goings):
    return place(chart, address_after(chart, address(chart, x), goings))


def round_length(chart, x):
    told = address(chart, x)
    return length_of_round(chart.bands[told[0]], told[1])


def rounds_of_band(band):
    if not band[3]:
        return [(band[2], band[1])]
    return [(band[2], band[1] % 2), (2 * band[2], band[1] // 2)]


def rounds(chart):
    counts = {}
    for band in chart.bands:
        for length, number in rounds_of_band(band):
            counts[length] = counts.get(length, 0) + number
    return [(length, counts[length]) for length in sorted(counts) if counts[length] > 0]


def between(chart, x, y):
    one = address(chart, x)
    two = address(chart, y)
    if one[0] != two[0]:
        return None
    band = chart.bands[one[0]]
    goings = two[2] - one[2]
    if one[1] == two[1]:
        return goings % length_of_round(band, one[1])
    if band[3] and two[1] == other_offset(band, one[1]):
        return (goings + band[2]) % length_of_round(band, one[1])
    return None
