"""Papers that a log has no way."""

from foldlog.frames import frame_of
from foldlog.logs import EARLIER, LATER, MINUTES
from foldlog.raising import first_lows, low_behind, raised, walked
from foldlog.rings import ring_of
from foldlog.words import is_whole


def needed_steps(bonds, steps):
    # From the last step backwards: a step is needed where the low that it makes
    # is the one on which a needed step behind it builds.
    told = []
    wanted = {}
    for number in reversed(steps):
        later = bonds[number][LATER]
        if not told or later in wanted:
            told.append(number)
            wanted.pop(later, None)
            wanted[bonds[number][EARLIER]] = True
    return list(reversed(told))


def settled(names, frame):
    # A tuple (paper, lows, steps): a paper, or None, and the lows of the earliest
    # way and the steps that lead to it, both None where there is a paper.
    lows = first_lows(frame)
    if None in lows:
        return (("empty", names[lows.index(None)]), None, None)
    ring = ring_of(frame)
    if ring is not None:
        return (("ring", ring), None, None)
    told = raised(frame, lows)
    if told[2] is not None:
        return (("past", needed_steps(frame.bonds(), told[1])), None, None)
    return (None, told[0], told[1])


def paper_of(log):
    return settled(log.names(), frame_of(log))[0]


def are_steps(log, thing):
    if not isinstance(thing, list) or len(thing) == 0:
        return False
    last = len(log.bonds()) - 1
    return all([is_whole(number, 0, last) for number in thing])


def is_ring(bonds, numbers):
    ahead = numbers[-1:] + numbers[:-1]
    for number, before in zip(numbers, ahead):
        if bonds[number][EARLIER] != bonds[before][LATER]:
            return False
    return sum([bonds[number][MINUTES] for number in numbers]) > 0


def is_past(frame, numbers):
    lows = walked(frame, numbers[:-1])
    if None in lows:
        return False
    return low_behind(frame.spans(), lows, frame.bonds()[numbers[-1]]) is None


def is_paper(log, thing):
    if not isinstance(thing, tuple) or len(thing) != 2:
        return False
    if thing[0] == "empty":
        return thing[1] in log.names() and log.spans(thing[1]) == []
    if not are_steps(log, thing[1]):
        return False
    if thing[0] == "ring":
        return is_ring(log.bonds(), thing[1])
    return thing[0] == "past" and is_past(frame_of(log), thing[1])
