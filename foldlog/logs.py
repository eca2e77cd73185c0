"""Logs: tables of places, entries, and bonds between entries."""

from foldlog.entries import Entry
from foldlog.errors import NoBond, NoEntry, NoMinutes, NoMoment, NoName, NoPlace, Taken, TooMany
from foldlog.words import is_minutes, is_moment, is_name, is_whole

MOST_PLACES = 6
MOST_ENTRIES = 60
MOST_BONDS = 100

# Where the parts of a bond stand in its tuple, also in a frame's.
LATER = 0
EARLIER = 1
MINUTES = 2


def is_key(thing, keyed):
    # Asked for a text first: not every thing can be looked up in a dict.
    return isinstance(thing, str) and thing in keyed


class Log:
    def __init__(self):
        self.tables = {}
        self.entries = {}
        self.bound = []

    def clock(self, place, table):
        if not is_name(place):
            raise NoName(place)
        if place not in self.tables and len(self.tables) >= MOST_PLACES:
            raise TooMany(len(self.tables) + 1)
        self.tables[place] = table

    def put(self, entry):
        if not isinstance(entry, Entry):
            raise NoEntry(entry)
        if entry.name in self.entries:
            raise Taken(entry.name)
        for place in entry.places():
            if place not in self.tables:
                raise NoPlace(place)
        if len(self.entries) >= MOST_ENTRIES:
            raise TooMany(len(self.entries) + 1)
        self.entries[entry.name] = entry

    def bind(self, later, earlier, minutes):
        self.check_entry(later)
        self.check_entry(earlier)
        if not is_minutes(minutes):
            raise NoMinutes(minutes)
        if len(self.bound) >= MOST_BONDS:
            raise TooMany(len(self.bound) + 1)
        self.bound.append((later, earlier, minutes))
        return len(self.bound) - 1

    def unbind(self, number):
        self.check_bond(number)
        self.bound.pop(number)

    def drop(self, name):
        self.check_entry(name)
        self.entries.pop(name)
        self.bound = [bond for bond in self.bound if name != bond[LATER] and name != bond[EARLIER]]

    def check_entry(self, name):
        if not is_key(name, self.entries):
            raise NoEntry(name)

    def check_bond(self, number):
        if not is_whole(number, 0, len(self.bound) - 1):
            raise NoBond(number)

    def names(self):
        return list(self.entries)

    def entry(self, name):
        self.check_entry(name)
        return self.entries[name]

    def spans(self, name):
        return self.entry(name).spans(self.tables)

    def bonds(self):
        return list(self.bound)

    def places(self):
        return sorted(self.tables)

    def table(self, place):
        if not is_key(place, self.tables):
            raise NoPlace(place)
        return self.tables[place]

    def readings(self, moment):
        if not is_moment(moment):
            raise NoMoment(moment)
        told = {}
        for place in self.places():
            told[place] = self.tables[place].reading(moment)
        return told

    def copied(self):
        told = Log()
        told.tables = dict(self.tables)
        told.entries = dict(self.entries)
        told.bound = list(self.bound)
        return told

    def with_entry(self, entry):
        # A copy that has this entry in the place of the one of the same name.
        told = self.copied()
        told.entries[entry.name] = entry
        return told

    def with_bonds(self, bonds):
        # A copy that has these bonds in the place of its own.
        told = self.copied()
        told.bound = list(bonds)
        return told
