"""What a desk is asked about clocks and logs, and the texts that it answers."""

from foldlog.behind import led
from foldlog.chances import chances, fixed
from foldlog.clocks import clock_text
from foldlog.earliest import earliest
from foldlog.firsts import first_pairs, least_gap, surely_first
from foldlog.folds import repeated, skipped
from foldlog.idle import is_idle, shut_out
from foldlog.latest import latest
from foldlog.logtext import log_lines
from foldlog.papers import paper_of
from foldlog.pins import way_at
from foldlog.shortest import first_unlike


def stretch_text(low, high):
    first = clock_text(low)
    last = clock_text(high)
    return first if low == high else f"{first}..{last}"


def stretch_texts(spans):
    return [stretch_text(low, high) for low, high in spans]


def named_clock(name, number):
    clock = clock_text(number)
    return f"{name} {clock}"


def named_clocks(numbers):
    return [named_clock(name, number) for name, number in numbers.items()]


def yes_or_no(truth):
    return ["yes" if truth else "no"]


# The questions: each is handed the log and what the words behind its own one tell.


def show(log, told):
    return named_clocks(log.readings(told[0]))


def moments_told(log, told):
    return [clock_text(moment) for moment in log.table(told[0]).moments(told[1])]


def led_told(log, told):
    rows = led(log.table(told[0]), log.table(told[1]), told[2])
    return [named_clock(clock_text(moment), reading) for moment, reading in rows]


def unlike(log, told):
    moment = first_unlike(log.table(told[0]), log.table(told[1]))
    return [] if moment is None else [clock_text(moment)]


def skipped_told(log, told):
    return stretch_texts(skipped(log.table(told[0])))


def repeated_told(log, told):
    return stretch_texts(repeated(log.table(told[0])))


def log_told(log, told):
    return log_lines(log)


def names_told(log, told):
    return log.names()


def spans_told(log, told):
    return stretch_texts(log.spans(told[0]))


def chances_told(log, told):
    return stretch_texts(chances(log, told[0]))


def earliest_told(log, told):
    return named_clocks(earliest(log)[0])


def latest_told(log, told):
    return named_clocks(latest(log)[0])


def way_told(log, told):
    return named_clocks(way_at(log, told[0], told[1]))


def why(log, told):
    paper = paper_of(log)
    if paper is None:
        return ["way"]
    rest = [paper[1]] if paper[0] == "empty" else [str(number) for number in paper[1]]
    return [" ".join([paper[0]] + rest)]


def fixed_told(log, told):
    return fixed(log)


def first_told(log, told):
    return yes_or_no(surely_first(log, told[0], told[1]))


def pairs_told(log, told):
    return [f"{one} {other}" for one, other in first_pairs(log)]


def gap_told(log, told):
    return [str(least_gap(log, told[0], told[1])[0])]


def idle_told(log, told):
    return yes_or_no(is_idle(log, told[0]))


def shut_told(log, told):
    lost = shut_out(log, None, [tuple(told)])
    return [" ".join([name] + stretch_texts(lost[name])) for name in lost]


# For each first word the kinds of the words behind it, and what answers.
ASKING = {
    "show": ("C", show),
    "moments": ("PR", moments_told),
    "led": ("PPR", led_told),
    "unlike": ("PP", unlike),
    "skipped": ("P", skipped_told),
    "repeated": ("P", repeated_told),
    "log": ("", log_told),
    "names": ("", names_told),
    "spans": ("E", spans_told),
    "chances": ("E", chances_told),
    "earliest": ("", earliest_told),
    "latest": ("", latest_told),
    "at": ("EC", way_told),
    "why": ("", why),
    "fixed": ("", fixed_told),
    "first": ("EE", first_told),
    "pairs": ("", pairs_told),
    "gap": ("EE", gap_told),
    "idle": ("N", idle_told),
    "shut": ("EEM", shut_told),
}
