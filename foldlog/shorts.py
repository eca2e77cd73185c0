"""Papers from which no step can be left out."""

from foldlog.errors import NoPaper
from foldlog.frames import frame_of
from foldlog.logs import EARLIER, LATER, MINUTES
from foldlog.papers import is_paper
from foldlog.raising import first_lows, low_behind
from foldlog.spans import last_to


def lows_ahead(frame, numbers):
    # A tuple of two lists: for each step the low that its later entry has ahead of
    # it, and the lows behind all of them.
    spans = frame.spans()
    bonds = frame.bonds()
    lows = first_lows(frame)
    told = []
    for number in numbers:
        later = bonds[number][LATER]
        told.append(lows[later])
        lows[later] = low_behind(spans, lows, bonds[number])
    return (told, lows)


def is_met(needs, lows):
    return any([lows[entry] >= needs[entry] for entry in needs])


def add_need(needs, spans, bond):
    # The step leads the later entry to its need just where it would lead it beyond
    # the last of its moments that is below the need.
    last = last_to(spans[bond[LATER]], needs[bond[LATER]] - 1)
    need = last + 1 - bond[MINUTES]
    needs[bond[EARLIER]] = min(need, needs.get(bond[EARLIER], need))


def shortened_row(frame, numbers):
    # From the last step backwards. The needs tell from which low of an entry on the
    # steps that were kept so far go past; one of them that is met is enough. Where
    # one is met ahead of a step already, that step can go. Steps that go later on,
    # further ahead, leave no low higher: so what was kept is still needed then.
    spans = frame.spans()
    bonds = frame.bonds()
    told = lows_ahead(frame, numbers)
    ahead = told[0]
    lows = told[1]
    last = bonds[numbers[-1]][LATER]
    needs = {last: spans[last][-1][1] + 1}
    kept = []
    for number, low in reversed(list(zip(numbers, ahead))):
        lows[bonds[number][LATER]] = low
        if not is_met(needs, lows):
            kept.append(number)
            add_need(needs, spans, bonds[number])
    return list(reversed(kept))


def is_short(log, thing):
    if not is_paper(log, thing):
        return False
    if thing[0] != "past":
        return True
    return len(shortened_row(frame_of(log), thing[1])) == len(thing[1])


def short_paper(log, paper):
    if not is_paper(log, paper):
        raise NoPaper(paper)
    if paper[0] == "empty":
        return paper
    if paper[0] == "ring":
        return ("ring", list(paper[1]))
    return ("past", shortened_row(frame_of(log), paper[1]))
