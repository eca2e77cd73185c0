"""At which moments an entry may have been, by all that a log tells."""

from foldlog.errors import NoWay
from foldlog.frames import frame_of
from foldlog.lattice import room
from foldlog.papers import settled
from foldlog.raising import Raiser
from foldlog.spans import spans_of
from foldlog.sweeps import Sweep


def chances_in(raiser, lows, number):
    sweep = Sweep(raiser, lows, number)
    told = []
    while sweep.onward():
        told.append((sweep.low, sweep.high))
    return spans_of(told)


def chances_of(log, names):
    frame = frame_of(log)
    lows = settled(log.names(), frame)[1]
    if lows is None:
        return dict([(name, []) for name in names])
    raiser = Raiser(frame)
    places = log.names()
    return dict([(name, chances_in(raiser, lows, places.index(name))) for name in names])


def chances(log, name):
    log.check_entry(name)
    return chances_of(log, [name])[name]


def all_chances(log):
    return chances_of(log, log.names())


def fixed(log):
    # Both ends of the room are chances: so there is one alone where they are one.
    try:
        told = room(log)
    except NoWay:
        return []
    return [name for name in told if told[name][0] == told[name][1]]
