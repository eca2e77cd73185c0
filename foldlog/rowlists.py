"""Lists of rows (moment, number), which tell a number for each moment."""

from foldlog.errors import NoTable
from foldlog.words import is_moment, is_whole


def is_row(thing, widest):
    if not isinstance(thing, tuple) or len(thing) != 2:
        return False
    return is_moment(thing[0]) and is_whole(thing[1], -widest, widest)


def may_stand(rows, place):
    if place == 0:
        return rows[0][0] == 0
    return rows[place][0] > rows[place - 1][0]


def check_rows(rows, most, widest):
    if not isinstance(rows, list) or len(rows) == 0:
        raise NoTable(0)
    if len(rows) > most:
        raise NoTable(most)
    for place, row in enumerate(rows):
        if not is_row(row, widest) or not may_stand(rows, place):
            raise NoTable(place)


def number_at(rows, moment):
    return [number for start, number in rows if start <= moment][-1]


def shortest_rows(rows):
    told = []
    for moment, number in rows:
        if not told or told[-1][1] != number:
            told.append((moment, number))
    return told


def summed(one, other):
    # The shortest list that tells for each moment what both tell together.
    told = []
    for moment in sorted(set([start for start, number in one + other])):
        told.append((moment, number_at(one, moment) + number_at(other, moment)))
    return shortest_rows(told)


def differences(one, other):
    # By how much the second list's number is above the first one's.
    return summed([(moment, -number) for moment, number in one], other)
