"""Between the earliest and the latest way, and the lesser and the greater of two."""

from foldlog.earliest import earliest_in
from foldlog.errors import NoEntry
from foldlog.frames import frame_of
from foldlog.latest import lowered


def room(log):
    names = log.names()
    frame = frame_of(log)
    lows = earliest_in(names, frame)[0]
    highs = lowered(frame)[0]
    return dict(zip(names, list(zip(lows.values(), highs))))


def check_lacking(one, other):
    for name in one:
        if name not in other:
            raise NoEntry(name)


def check_same_names(one, other):
    check_lacking(one, other)
    check_lacking(other, one)


def lesser(one, other):
    check_same_names(one, other)
    return dict([(name, min(one[name], other[name])) for name in one])


def greater(one, other):
    check_same_names(one, other)
    return dict([(name, max(one[name], other[name])) for name in one])
