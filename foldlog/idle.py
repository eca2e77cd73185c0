"""Bonds that tell nothing new, and what more would shut out."""

from foldlog.chances import all_chances
from foldlog.earliest import earliest, earliest_in
from foldlog.firsts import gap_in
from foldlog.frames import Frame, frame_of
from foldlog.logs import EARLIER, LATER, MINUTES
from foldlog.papers import settled
from foldlog.raising import Raiser
from foldlog.spans import less


def with_contrary(bonds, number):
    told = list(bonds)
    bond = bonds[number]
    told[number] = (bond[EARLIER], bond[LATER], 1 - bond[MINUTES])
    return told


def opposed(log, number):
    log.check_bond(number)
    return log.with_bonds(with_contrary(log.bonds(), number))


def breaking(log, number):
    return earliest(opposed(log, number))[0]


def is_idle_in(names, frame, number):
    other = Frame(frame.spans(), with_contrary(frame.bonds(), number))
    return settled(names, other)[0] is not None


def is_idle(log, number):
    log.check_bond(number)
    return is_idle_in(log.names(), frame_of(log), number)


def without_bond(frame, number):
    bonds = frame.bonds()
    bonds.pop(number)
    return Frame(frame.spans(), bonds)


def lean(log):
    names = log.names()
    left = log.copied()
    # The frame goes along with the log: asking a sifted entry for its moments anew
    # at each bond would take long.
    frame = frame_of(log)
    taken = []
    for number in range(len(log.bonds()) - 1, -1, -1):
        if is_idle_in(names, frame, number):
            frame = without_bond(frame, number)
            left.unbind(number)
            taken.append(number)
    return (left, taken)


def tightened(log):
    names = log.names()
    frame = frame_of(log)
    lows = list(earliest_in(names, frame)[0].values())
    raiser = Raiser(frame)
    bonds = []
    for later, earlier, minutes in frame.bonds():
        least = gap_in(raiser, lows, earlier, later)[0]
        bonds.append((names[later], names[earlier], least))
    return log.with_bonds(bonds)


def told_more(log, entry, bonds):
    told = log.copied()
    if entry is not None:
        told.put(entry)
    for later, earlier, minutes in bonds:
        told.bind(later, earlier, minutes)
    return told


def shut_out(log, entry, bonds):
    after = all_chances(told_more(log, entry, bonds))
    before = all_chances(log)
    told = {}
    for name in before:
        lost = less(before[name], after[name])
        if lost:
            told[name] = lost
    return told
