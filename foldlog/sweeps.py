"""Sweeps: one entry led upwards through all moments at which a way has it."""

from foldlog.spans import first_from, place_from


def reach_from(bonds, start):
    # For each entry to which bonds lead from the first one, the most minutes by
    # which they put it behind that one. Of bonds without a ring alone.
    told = {start: 0}
    grown = True
    while grown:
        grown = False
        for later, earlier, minutes in bonds:
            if earlier in told and (later not in told or told[later] < told[earlier] + minutes):
                told[later] = told[earlier] + minutes
                grown = True
    return told


class Sweep:
    # Made of a frame's Raiser, its earliest way, and the entry that is swept. It
    # stands at a stretch of moments, from low to high, each of which a way has.
    #
    # The lows are a way that is not above any way with the swept entry at low or
    # later. Entries that bonds lead to go up with the swept one, by their reach,
    # and all of that is a way as long as each stays within its tuple of spans. So
    # the stretch ends where the first of them comes to the end of its tuple.
    def __init__(self, raiser, lows, swept):
        self.raiser = raiser
        self.lows = list(lows)
        self.swept = swept
        self.reach = reach_from(raiser.kept_bonds, swept)
        self.ends = {}
        for entry in self.reach:
            self.mark_end(entry)
        self.low = lows[swept]
        self.high = self.low - 1

    def mark_end(self, entry):
        spans = self.raiser.kept_spans[entry]
        self.ends[entry] = spans[place_from(spans, self.lows[entry])][1] - self.reach[entry]

    def onward(self):
        # Goes on to the next stretch; False where there is none.
        self.low = self.high + 1
        while min(self.ends.values()) < self.low:
            if not self.leap():
                return False
        self.high = min(self.ends.values())
        return True

    def leap(self):
        # Leads all entries that are past their tuples to later ones; False where
        # one has none, or bonds lead another one past its last moment.
        leaving = [entry for entry in self.reach if self.ends[entry] < self.low]
        for entry in leaving:
            low = first_from(self.raiser.kept_spans[entry], self.low + self.reach[entry])
            if low is None:
                return False
            self.lows[entry] = low
        lifted = self.raiser.lift(self.lows, leaving)
        if lifted[1] is not None:
            return False
        for entry in leaving + self.raiser.laters(lifted[0]):
            self.mark_end(entry)
        self.low = max(self.low, self.lows[self.swept])
        return True

    def last_low(self, entry):
        # Where an entry is in the earliest of all ways with the swept one at high.
        if entry not in self.reach:
            return self.lows[entry]
        return max(self.lows[entry], self.high + self.reach[entry])

    def last_way(self):
        return [self.last_low(entry) for entry in range(len(self.lows))]
