"""Entries: each has a name and the moments at which it may have been by itself."""

from foldlog.errors import NoEntry, NoMoment, NoName, NoPlace, NoReading, TooMany
from foldlog.spans import both, how_many, spans_of
from foldlog.words import LAST, is_moment, is_name, is_reading

MOST_PARTS = 8
MOST_SIFTED = 1000


def check_name(thing):
    if not is_name(thing):
        raise NoName(thing)


def check_moment(thing):
    if not is_moment(thing):
        raise NoMoment(thing)


def check_reading(thing):
    if not is_reading(thing):
        raise NoReading(thing)


class Entry:
    def __init__(self, name):
        check_name(name)
        self.name = name

    def word(self):
        return "any"

    def places(self):
        return []

    def spans(self, tables):
        return [(0, LAST)]


class Within(Entry):
    def __init__(self, name, low, high):
        Entry.__init__(self, name)
        check_moment(low)
        check_moment(high)
        self.low = low
        self.high = high

    def word(self):
        return "within"

    def spans(self, tables):
        return spans_of([(self.low, self.high)])


class At(Within):
    def __init__(self, name, moment):
        Within.__init__(self, name, moment, moment)

    def word(self):
        return "at"


class Between(Entry):
    def __init__(self, name, place, low, high):
        Entry.__init__(self, name)
        check_name(place)
        check_reading(low)
        check_reading(high)
        self.place = place
        self.low = low
        self.high = high

    def word(self):
        return "between"

    def places(self):
        return [self.place]

    def spans(self, tables):
        if self.place not in tables:
            raise NoPlace(self.place)
        return tables[self.place].moments_between(self.low, self.high)


class Read(Between):
    def __init__(self, name, place, reading):
        Between.__init__(self, name, place, reading, reading)

    def word(self):
        return "read"


class Joint(Entry):
    def __init__(self, name, parts):
        Entry.__init__(self, name)
        check_parts(parts)
        self.kept_parts = list(parts)

    def word(self):
        return "joint"

    def parts(self):
        return list(self.kept_parts)

    def places(self):
        told = []
        for part in self.kept_parts:
            told.extend([place for place in part.places() if place not in told])
        return told

    def spans(self, tables):
        told = [(0, LAST)]
        # All parts are asked, also where nothing is left: each may lack its table.
        for part in self.kept_parts:
            told = both(told, part.spans(tables))
        return told


class Sifted(Entry):
    def __init__(self, name, part, keeps):
        Entry.__init__(self, name)
        check_part(part)
        self.part = part
        self.keeps = keeps

    def word(self):
        return "sifted"

    def places(self):
        return self.part.places()

    def spans(self, tables):
        keeps = self.keeps
        told = []
        for low, high in self.part.spans(tables):
            told.extend([(moment, moment) for moment in range(low, high + 1) if keeps(moment)])
        return spans_of(told)


def check_parts(parts):
    if not isinstance(parts, list) or len(parts) == 0:
        raise NoEntry(parts)
    if len(parts) > MOST_PARTS:
        raise TooMany(len(parts))
    for part in parts:
        if not isinstance(part, Entry) or isinstance(part, Joint):
            raise NoEntry(part)


def check_part(part):
    if isinstance(part, Read):
        return
    if not isinstance(part, Within):
        raise NoEntry(part)
    # A Within hangs on no table.
    many = how_many(part.spans({}))
    if many > MOST_SIFTED:
        raise TooMany(many)
