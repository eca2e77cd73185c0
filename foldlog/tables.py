"""Tables: what the clock of a place shows."""

from foldlog.errors import NoMoment, NoReading
from foldlog.rowlists import check_rows, number_at
from foldlog.spans import spans_of
from foldlog.words import LAST, WIDEST_SHIFT, is_moment, is_reading

MOST_ROWS = 21


class Table:
    def __init__(self, rows):
        check_rows(rows, MOST_ROWS, WIDEST_SHIFT)
        self.kept = list(rows)

    def rows(self):
        return list(self.kept)

    def pieces(self):
        ends = [moment - 1 for moment, shift in self.kept[1:]] + [LAST]
        return [(row[0], end, row[1]) for row, end in zip(self.kept, ends)]

    def shift_at(self, moment):
        if not is_moment(moment):
            raise NoMoment(moment)
        return number_at(self.kept, moment)

    def reading(self, moment):
        return self.shift_at(moment) + moment

    def moments(self, reading):
        if not is_reading(reading):
            raise NoReading(reading)
        return [reading - shift for low, high, shift in self.pieces() if low <= reading - shift <= high]

    def moments_between(self, low, high):
        if not is_reading(low):
            raise NoReading(low)
        if not is_reading(high):
            raise NoReading(high)
        return spans_of([(max(start, low - shift), min(end, high - shift)) for start, end, shift in self.pieces()])
