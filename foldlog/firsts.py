"""Which of two entries was first, and by how much at least."""

from foldlog.earliest import earliest_in
from foldlog.frames import Frame, frame_of
from foldlog.papers import settled
from foldlog.raising import Raiser
from foldlog.sweeps import Sweep


def check_two(log, one, other):
    log.check_entry(one)
    log.check_entry(other)


def thought_behind(log, one, other):
    # The log's frame with one bond more, that one was not ahead of other. It is no
    # log's: there a hundred bonds may stand already.
    check_two(log, one, other)
    names = log.names()
    frame = frame_of(log)
    return Frame(frame.spans(), frame.bonds() + [(names.index(one), names.index(other), 0)])


def other_order(log, one, other):
    return earliest_in(log.names(), thought_behind(log, one, other))[0]


def surely_first(log, one, other):
    return settled(log.names(), thought_behind(log, one, other))[0] is not None


def entries_behind(raiser, lows, one):
    # The entries that are behind this one in each way. The earliest way with it at
    # the end of each stretch is asked: ahead of the end they are as much later.
    sweep = Sweep(raiser, lows, one)
    left = [entry for entry in range(len(lows)) if entry != one]
    while left and sweep.onward():
        left = [entry for entry in left if sweep.last_low(entry) > sweep.high]
    return left


def first_pairs(log):
    names = log.names()
    frame = frame_of(log)
    lows = settled(names, frame)[1]
    raiser = None if lows is None else Raiser(frame)
    told = []
    for one, name in enumerate(names):
        if raiser is None:
            behind = [entry for entry in range(len(names)) if entry != one]
        else:
            behind = entries_behind(raiser, lows, one)
        told.extend([(name, names[entry]) for entry in behind])
    return told


def gap_in(raiser, lows, one, other):
    # A tuple of the least gap and the lows of a way that has it: the earliest one at
    # the end of a stretch, as within a stretch the gap never grows.
    sweep = Sweep(raiser, lows, one)
    told = None
    while sweep.onward():
        gap = sweep.last_low(other) - sweep.high
        if told is None or gap < told[0]:
            told = (gap, sweep.last_way())
    return told


def least_gap(log, one, other):
    check_two(log, one, other)
    names = log.names()
    frame = frame_of(log)
    lows = list(earliest_in(names, frame)[0].values())
    told = gap_in(Raiser(frame), lows, names.index(one), names.index(other))
    return (told[0], dict(zip(names, told[1])))
