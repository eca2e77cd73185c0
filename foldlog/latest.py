"""The latest way of a log: raising, mirrored."""

from foldlog.earliest import check_steps, earliest_in
from foldlog.frames import Frame, frame_of
from foldlog.raising import first_lows, raised, walked
from foldlog.spans import turned


def mirrored(frame):
    bonds = [(earlier, later, minutes) for later, earlier, minutes in frame.bonds()]
    return Frame([turned(spans) for spans in frame.spans()], bonds)


def turned_back(lows):
    return [None if low is None else -low for low in lows]


def walked_down(log, steps):
    check_steps(log, steps)
    lows = walked(mirrored(frame_of(log)), steps)
    return dict(zip(log.names(), turned_back(lows)))


def lowered(frame):
    # A tuple (highs, steps), of a frame that has a way.
    other = mirrored(frame)
    told = raised(other, first_lows(other))
    return (turned_back(told[0]), told[1])


def latest(log):
    names = log.names()
    frame = frame_of(log)
    # Where there is no way, the paper must be one of the frame itself, not of the
    # mirrored one: so the earliest way is asked for first.
    earliest_in(names, frame)
    told = lowered(frame)
    return (dict(zip(names, told[0])), told[1])
