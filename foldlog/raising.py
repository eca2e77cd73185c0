"""Lows of a frame, raised step by step until they keep all bonds."""

from foldlog.logs import EARLIER, LATER, MINUTES
from foldlog.rings import heights_of
from foldlog.spans import first_from


def first_lows(frame):
    return [spans[0][0] if spans else None for spans in frame.spans()]


def low_behind(spans, lows, bond):
    # The low of the bond's later entry behind a step upwards.
    low = lows[bond[LATER]]
    if low is None or lows[bond[EARLIER]] is None:
        return low
    return first_from(spans[bond[LATER]], max(low, lows[bond[EARLIER]] + bond[MINUTES]))


def walked(frame, steps):
    spans = frame.spans()
    bonds = frame.bonds()
    lows = first_lows(frame)
    for number in steps:
        lows[bonds[number][LATER]] = low_behind(spans, lows, bonds[number])
    return lows


def numbers_from(bonds, many):
    # For each entry the bonds of which it is the earlier one.
    told = [[] for entry in range(many)]
    for number, bond in enumerate(bonds):
        told[bond[EARLIER]].append(number)
    return told


def furthest(waiting, lows, heights):
    # Heights keep all bonds: so a bond raises no entry further above its height
    # than the earlier one is, but where a gap of its spans is leapt. Taken in this
    # order, an entry is gone on from once, and again behind such leaps alone.
    return max(list(waiting), key=lambda entry: lows[entry] - heights[entry])


def raised(frame, lows):
    spans = frame.spans()
    bonds = frame.bonds()
    heights = heights_of(frame)
    onwards = numbers_from(bonds, len(spans))
    told = list(lows)
    steps = []
    waiting = dict([(entry, True) for entry in range(len(spans))])
    while waiting:
        entry = furthest(waiting, told, heights)
        waiting.pop(entry)
        for number in onwards[entry]:
            later = bonds[number][LATER]
            low = low_behind(spans, told, bonds[number])
            if low == told[later]:
                continue
            steps.append(number)
            if low is None:
                return (told, steps, later)
            told[later] = low
            waiting[later] = True
    return (told, steps, None)
