"""The earliest way of a log."""

from foldlog.errors import NoBond, NoWay
from foldlog.frames import frame_of
from foldlog.papers import settled
from foldlog.raising import walked


def earliest_in(names, frame):
    told = settled(names, frame)
    if told[0] is not None:
        raise NoWay(told[0])
    return (dict(zip(names, told[1])), told[2])


def earliest(log):
    return earliest_in(log.names(), frame_of(log))


def check_steps(log, steps):
    if not isinstance(steps, list):
        raise NoBond(steps)
    for number in steps:
        log.check_bond(number)


def walked_up(log, steps):
    check_steps(log, steps)
    return dict(zip(log.names(), walked(frame_of(log), steps)))
