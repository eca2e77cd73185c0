"""Tables that several tests try, and what they show, told in another way."""

import random

from foldlog.tables import Table

LAST = 10 ** 9


def shown(rows, moment):
    # What the clock of these rows shows at the moment.
    shift = None
    for start, more in rows:
        if start <= moment:
            shift = more
    return moment + shift


def some_rows(chance, most, widest):
    # Rows near the first moment, sometimes with some near the last one.
    starts = chance.sample(range(1, 40), chance.randint(0, most - 1))
    if chance.random() < 0.3:
        starts = [start if chance.random() < 0.5 else LAST + 1 - start for start in starts]
    starts = [0] + sorted(set(starts))
    return [(start, chance.randint(-widest, widest)) for start in starts]


def many_rows(seed, turns, most=8, widest=9):
    chance = random.Random(seed)
    fixed = [
        [(0, 0)], [(0, 2880)], [(0, -2880)], [(0, 60), (90, -5)], [(0, 1), (5, 0)], [(0, 3), (5, 3), (9, 3)],
        [(0, 0), (LAST, 1)], [(0, 0), (LAST, -1)], [(0, 2880), (LAST, -2880)], [(0, -2880), (LAST, 2880)],
        [(place, 20 - place) for place in range(21)], [(place, place % 2) for place in range(21)],
        [(0, 0), (10, 5), (20, 0), (30, -5)], [(0, -2880), (3000, 2880), (6000, -2880)],
    ]
    return fixed + [some_rows(chance, most, widest) for turn in range(turns)]


def long_rows(many, start=0, step=10):
    # A shortest list of so many rows.
    return [(0 if place == 0 else start + place * step, place % 2) for place in range(many)]


def tables(seed, turns, most=8, widest=9):
    return [Table(rows) for rows in many_rows(seed, turns, most, widest)]


def edges(*row_lists):
    # The moments at which something may change, and their neighbours.
    starts = [start for rows in row_lists for start, number in rows] + [LAST]
    near = {start + step for start in starts for step in (-2, -1, 0, 1, 2)}
    return sorted(moment for moment in near if 0 <= moment <= LAST)


def is_shortest(rows):
    return all(one[1] != other[1] for one, other in zip(rows, rows[1:]))
