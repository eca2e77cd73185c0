"""Logs put together, and parts of logs."""

from foldlog.entries import MOST_PARTS, Joint
from foldlog.errors import TooMany, Unlike
from foldlog.logs import MOST_BONDS, MOST_ENTRIES, MOST_PLACES, Log
from foldlog.shortest import first_unlike


def both_told(one, other):
    # Those of the first list, and behind them those of the second that it has not.
    return one + [thing for thing in other if thing not in one]


def check_many(many, most):
    if many > most:
        raise TooMany(many)


def check_tables(one, other):
    for place in one.places():
        if place in other.places():
            moment = first_unlike(one.table(place), other.table(place))
            if moment is not None:
                raise Unlike(place, moment)


def parts_of(log, name):
    # None of them is a joint one, since the parts of a joint entry are not.
    if name not in log.names():
        return []
    entry = log.entry(name)
    return entry.parts() if isinstance(entry, Joint) else [entry]


def parts_together(one, other, name):
    return parts_of(one, name) + parts_of(other, name)


def check_together(one, other):
    check_many(len(both_told(one.places(), other.places())), MOST_PLACES)
    check_tables(one, other)
    for name in one.names():
        check_many(len(parts_together(one, other, name)), MOST_PARTS)
    check_many(len(both_told(one.names(), other.names())), MOST_ENTRIES)
    check_many(len(one.bonds()) + len(other.bonds()), MOST_BONDS)


def entry_together(one, other, name):
    if name not in other.names():
        return one.entry(name)
    if name not in one.names():
        return other.entry(name)
    return Joint(name, parts_together(one, other, name))


def put_together(one, other):
    check_together(one, other)
    told = Log()
    for place in both_told(one.places(), other.places()):
        told.clock(place, one.table(place) if place in one.places() else other.table(place))
    for name in both_told(one.names(), other.names()):
        told.put(entry_together(one, other, name))
    for later, earlier, minutes in one.bonds() + other.bonds():
        told.bind(later, earlier, minutes)
    return told


def picked(log, names):
    for name in names:
        log.check_entry(name)
    told = log.copied()
    for name in log.names():
        if name not in names:
            told.drop(name)
    return told
