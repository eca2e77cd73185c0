"""Logs as text."""

from foldlog.clocks import clock_text
from foldlog.entries import MOST_PARTS, At, Between, Entry, Joint, Read, Sifted, Within
from foldlog.errors import NoTable, NoText, Unwritten
from foldlog.linewords import word_in, words_in
from foldlog.logs import Log
from foldlog.tabletext import read_table, table_text

# The kinds of the words behind the first word of a form.
FORMS = {"any": "", "within": "CC", "at": "C", "between": "PRR", "read": "PR"}


def numbers_of(entry):
    if isinstance(entry, At) or isinstance(entry, Read):
        return [entry.low]
    if isinstance(entry, Within) or isinstance(entry, Between):
        return [entry.low, entry.high]
    return []


def plain_form(entry):
    clocks = [clock_text(number) for number in numbers_of(entry)]
    return " ".join([entry.word()] + entry.places() + clocks)


def form_text(entry):
    parts = entry.parts() if isinstance(entry, Joint) else [entry]
    if any([isinstance(part, Sifted) for part in parts]):
        raise Unwritten(entry.name)
    form = " & ".join([plain_form(part) for part in parts])
    return f"joint {form}" if isinstance(entry, Joint) else form


def clock_line(log, place):
    table = table_text(log.table(place))
    return f"clock {place} {table}"


def entry_line(log, name):
    form = form_text(log.entry(name))
    return f"entry {name} {form}"


def log_lines(log):
    clocks = [clock_line(log, place) for place in log.places()]
    entries = [entry_line(log, name) for name in log.names()]
    bonds = [f"bond {later} {earlier} {minutes}" for later, earlier, minutes in log.bonds()]
    return clocks + entries + bonds


def log_text(log):
    return "\n".join(log_lines(log))


def made_entry(name, word, told):
    if word == "within":
        return Within(name, told[0], told[1])
    if word == "at":
        return At(name, told[0])
    if word == "between":
        return Between(name, told[0], told[1], told[2])
    if word == "read":
        return Read(name, told[0], told[1])
    return Entry(name)


def plain_in(name, form):
    words = form.split(" ")
    if words[0] not in FORMS:
        return None
    told = words_in(FORMS[words[0]], words[1:])
    return None if told is None else made_entry(name, words[0], told)


def form_in(name, form):
    if not form.startswith("joint "):
        return plain_in(name, form)
    parts = [plain_in(name, part) for part in form.partition(" ")[2].split(" & ")]
    if None in parts or len(parts) > MOST_PARTS:
        return None
    return Joint(name, parts)


def table_in(text):
    try:
        return read_table(text)
    except NoText:
        return None
    except NoTable:
        return None


def clock_deed(rest):
    parts = rest.partition(" ")
    return (word_in("P", parts[0]), table_in(parts[2]))


def entry_deed(rest):
    parts = rest.partition(" ")
    name = word_in("E", parts[0])
    return (None if name is None else form_in(name, parts[2]),)


def bond_deed(rest):
    told = words_in("EEM", rest.split(" "))
    return (None,) if told is None else tuple(told)


DEEDS = {"clock": clock_deed, "entry": entry_deed, "bond": bond_deed}


def deed_in(line):
    # A tuple of the line's word and what the deed is done with; or None where the
    # line could not stand in a log's text.
    parts = line.partition(" ")
    if parts[0] not in DEEDS:
        return None
    deed = DEEDS[parts[0]]
    told = deed(parts[2])
    return None if None in told else (parts[0],) + told


def do_deed(log, deed):
    # Tells the number of a bond, else None.
    if deed[0] == "clock":
        log.clock(deed[1], deed[2])
        return None
    if deed[0] == "entry":
        log.put(deed[1])
        return None
    return log.bind(deed[1], deed[2], deed[3])


def put_at(log, line, at):
    deed = deed_in(line)
    if deed is None:
        raise NoText(at)
    do_deed(log, deed)


def put_line(log, line):
    if not isinstance(line, str):
        raise NoText(0)
    put_at(log, line, 0)


def read_log(text):
    if not isinstance(text, str):
        raise NoText(0)
    told = Log()
    if text == "":
        return told
    for place, line in enumerate(text.split("\n")):
        put_at(told, line, place)
    return told
