"""Logs in which one entry is held at a moment."""

from foldlog.earliest import earliest
from foldlog.entries import At, Within, check_moment
from foldlog.spans import has


def held(name, moment, spans):
    # An entry at this moment alone, or without any where it is none of the spans'.
    return At(name, moment) if has(spans, moment) else Within(name, 1, 0)


def pinned(log, name, moment):
    log.check_entry(name)
    check_moment(moment)
    return log.with_entry(held(name, moment, log.spans(name)))


def way_at(log, name, moment):
    return earliest(pinned(log, name, moment))[0]
