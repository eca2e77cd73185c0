"""What changes the log of a desk."""

from foldlog.behind import put_on, spliced
from foldlog.idle import lean, tightened
from foldlog.joins import picked
from foldlog.logs import Log
from foldlog.shortest import shortened


# Each is handed the log and what the words behind its own one tell, and tells a
# tuple of another log and the answer: so what is refused changes nothing.


def unbond(log, told):
    left = log.copied()
    left.unbind(told[0])
    return (left, [])


def drop(log, told):
    left = log.copied()
    left.drop(told[0])
    return (left, [])


def with_table(log, place, table):
    other = log.copied()
    other.clock(place, table)
    return (other, [])


def splice(log, told):
    table = spliced(log.table(told[0]), log.table(told[1]), told[2])
    return with_table(log, told[0], table)


def forward(log, told):
    return with_table(log, told[0], put_on(log.table(told[0]), told[1], told[2]))


def shorten(log, told):
    return with_table(log, told[0], shortened(log.table(told[0])))


def pick(log, told):
    return (picked(log, told), [])


def make_lean(log, told):
    done = lean(log)
    return (done[0], [str(number) for number in done[1]])


def tighten(log, told):
    return (tightened(log), [])


def begin(log, told):
    return (Log(), [])


# For each first word the kinds of the words behind it, and what is done. Of the
# names behind pick there may be more.
DOING = {
    "unbond": ("N", unbond),
    "drop": ("E", drop),
    "splice": ("PPC", splice),
    "forward": ("PCM", forward),
    "shorten": ("P", shorten),
    "pick": ("E", pick),
    "lean": ("", make_lean),
    "tighten": ("", tighten),
    "new": ("", begin),
}
