"""Whether a thing is a way of a log: moments of its entries that keep all bonds."""

from foldlog.logs import EARLIER, LATER, MINUTES
from foldlog.spans import has
from foldlog.words import is_number


def has_form(names, thing):
    if not isinstance(thing, dict) or len(thing) != len(names):
        return False
    return all([name in thing and is_number(thing[name]) for name in names])


def fault_of(log, thing):
    names = log.names()
    if not has_form(names, thing):
        return ("form",)
    for name in names:
        if not has(log.spans(name), thing[name]):
            return ("moment", name)
    for number, bond in enumerate(log.bonds()):
        if thing[bond[LATER]] < thing[bond[EARLIER]] + bond[MINUTES]:
            return ("bond", number)
    return None


def is_way(log, thing):
    return fault_of(log, thing) is None
