"""Lows of a frame, raised step by step until they keep all bonds."""

from foldlog.logs import EARLIER, LATER, MINUTES
from foldlog.rings import heights_of
from foldlog.spans import first_from


def first_lows(frame):
    return [spans[0][0] if spans else None for spans in frame.spans()]


def low_behind(spans, lows, bond):
    # The low of the bond's later entry behind a step upwards.
    low = lows[bond[LATER]]
    ahead = lows[bond[EARLIER]]
    if low is None or ahead is None or ahead + bond[MINUTES] <= low:
        return low
    return first_from(spans[bond[LATER]], ahead + bond[MINUTES])


def walked(frame, steps):
    spans = frame.spans()
    bonds = frame.bonds()
    lows = first_lows(frame)
    for number in steps:
        lows[bonds[number][LATER]] = low_behind(spans, lows, bonds[number])
    return lows


def numbers_from(bonds, many):
    # For each entry the bonds of which it is the earlier one.
    told = [[] for entry in range(many)]
    for number, bond in enumerate(bonds):
        told[bond[EARLIER]].append(number)
    return told


def furthest(waiting, lows, heights):
    # Heights keep all bonds: so a bond raises no entry further above its height
    # than the earlier one is, but where a gap of its spans is leapt. Taken in this
    # order, an entry is gone on from once, and again behind such leaps alone.
    return max(list(waiting), key=lambda entry: lows[entry] - heights[entry])


class Raiser:
    # What raising asks of a frame each time, found once for many times.
    def __init__(self, frame):
        self.kept_spans = frame.spans()
        self.kept_bonds = frame.bonds()
        self.heights = heights_of(frame)
        self.onwards = numbers_from(self.kept_bonds, len(self.kept_spans))

    def lift(self, lows, entries):
        # Raises the lows that are handed in, in their place, going on from these
        # entries. A tuple (steps, past) is told; at a step past its entry's last
        # moment the lows stay as they are ahead of it.
        steps = []
        waiting = dict([(entry, True) for entry in entries])
        while waiting:
            entry = furthest(waiting, lows, self.heights)
            waiting.pop(entry)
            for number in self.onwards[entry]:
                later = self.kept_bonds[number][LATER]
                low = low_behind(self.kept_spans, lows, self.kept_bonds[number])
                if low == lows[later]:
                    continue
                steps.append(number)
                if low is None:
                    return (steps, later)
                lows[later] = low
                waiting[later] = True
        return (steps, None)

    def laters(self, steps):
        return [self.kept_bonds[number][LATER] for number in steps]


def raised(frame, lows):
    told = list(lows)
    lifted = Raiser(frame).lift(told, list(range(len(lows))))
    return (told, lifted[0], lifted[1])
