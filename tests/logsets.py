"""Logs that several tests try, and all that a log tells."""

import random

from foldlog.entries import At, Between, Entry, Joint, Read, Sifted, Within
from foldlog.logs import Log
from foldlog.tables import Table

LAST = 10 ** 9

# It shows the reading 22 twice, 20 also at two moments side by side, 12 at none.
FOLD = [(0, 0), (10, 5), (16, 4), (20, 0)]


def numbers_in(spans):
    return [number for low, high in spans for number in range(low, high + 1)]


def spans_by_hand(numbers):
    told = []
    for number in sorted(set(numbers)):
        if told and told[-1][1] == number - 1:
            told[-1] = (told[-1][0], number)
        else:
            told.append((number, number))
    return told


def told_by(log):
    # All that a log tells, the entries and tables as the very things.
    names = log.names()
    return {
        "names": names,
        "entries": [(log.entry(name), log.spans(name)) for name in names],
        "bonds": log.bonds(),
        "places": log.places(),
        "tables": [log.table(place) for place in log.places()],
        "readings": [list(log.readings(moment).items()) for moment in (0, 15, 1440, LAST)],
    }


def name_of(number):
    # Names that differ, of small letters alone.
    return "n" + "".join("abcdefghij"[int(figure)] for figure in str(number))


def keeping(numbers):
    return lambda moment: moment in numbers


def entry_of(name, numbers, chance):
    # An entry with just these moments, all of them below 1000, told in some way.
    if not numbers:
        return chance.choice([Within(name, 5, 4), Between(name, "even", 5, 4), Read(name, "even", -1),
                              Joint(name, [At("x", 3), At("x", 4)])])
    if len(numbers) == 1 and chance.random() < 0.5:
        return chance.choice([At(name, numbers[0]), Read(name, "even", numbers[0])])
    if numbers == list(range(numbers[0], numbers[-1] + 1)):
        return chance.choice([Within(name, numbers[0], numbers[-1]), Between(name, "even", numbers[0], numbers[-1])])
    return Sifted(name, Within(name, numbers[0], numbers[-1]), keeping(numbers))


def log_of(moments, bonds, seed=0):
    # A log whose entries have just these moments, and bonds by numbers of entries.
    chance = random.Random(seed)
    log = Log()
    log.clock("even", Table([(0, 0)]))
    for number, numbers in enumerate(moments):
        log.put(entry_of(name_of(number), sorted(numbers), chance))
    for later, earlier, minutes in bonds:
        log.bind(name_of(later), name_of(earlier), minutes)
    return log


def free_log(many, bonds=()):
    # Entries that may have been at every moment.
    log = Log()
    for number in range(many):
        log.put(Entry(name_of(number)))
    for later, earlier, minutes in bonds:
        log.bind(name_of(later), name_of(earlier), minutes)
    return log


def a_log():
    # One of every kind of entry, and some bonds.
    log = Log()
    log.clock("fold", Table(FOLD))
    log.clock("even", Table([(0, 60)]))
    log.put(Entry("any"))
    log.put(Within("within", 3, 40))
    log.put(At("at", 17))
    log.put(Between("between", "fold", 9, 22))
    log.put(Read("read", "fold", 20))
    log.put(Joint("joint", [Within("x", 0, 20), Between("y", "even", 70, 90), Read("z", "fold", 20)]))
    log.put(Sifted("sifted", Within("x", 0, 99), lambda moment: moment % 2 == 1))
    for bond in [("within", "at", 3), ("any", "read", -5), ("read", "between", 0), ("joint", "at", -1), ("any", "any", 0)]:
        log.bind(*bond)
    return log


def within(highs, bonds):
    # Entries each from the moment 0 to its high, below 0 for one without moments.
    log = Log()
    for number, high in enumerate(highs):
        log.put(Within(name_of(number), 0, high) if high >= 0 else Within(name_of(number), 1, 0))
    for later, earlier, minutes in bonds:
        log.bind(name_of(later), name_of(earlier), minutes)
    return log


def zigzag_log():
    # Two entries that go up by turns, each leaping from one moment to the next.
    log = Log()
    log.put(Sifted("even", Within("x", 0, 999), lambda moment: moment % 2 == 0))
    log.put(Sifted("odd", Within("x", 0, 999), lambda moment: moment % 2 == 1))
    log.bind("even", "odd", 0)
    log.bind("odd", "even", 0)
    return log


def some_table(chance):
    moments = [0] + sorted(chance.sample(range(1, 4000), chance.randint(0, 20)))
    return Table([(moment, chance.randint(-300, 300)) for moment in moments])


def around(chance, name, moment):
    return Within(name, max(moment - chance.randint(0, 400), 0), moment + chance.randint(0, 400))


def entry_with(chance, log, name, moment):
    # An entry of any kind but a joint one that has this moment among its own.
    place = chance.choice(log.places())
    reading = log.table(place).reading(moment)
    beat = chance.randint(2, 9)
    kinds = [
        Entry(name), around(chance, name, moment), At(name, moment), Read(name, place, reading),
        Between(name, place, reading - chance.randint(0, 300), reading + chance.randint(0, 300)),
        Sifted(name, around(chance, name, moment), lambda number: number % beat == moment % beat),
        Sifted(name, Read(name, place, reading), lambda number: number >= moment),
    ]
    return kinds[chance.randrange(len(kinds))]


def full_log(seed):
    # A log with as much as a log can have, of each kind, and a way of it.
    chance = random.Random(seed)
    log = Log()
    way = {}
    for place in ("east", "fold", "home", "inn", "port", "west"):
        log.clock(place, some_table(chance))
    for number in range(60):
        name = name_of(number)
        way[name] = chance.randint(1000, 3000)
        parts = [entry_with(chance, log, "x", way[name]) for part in range(chance.randint(1, 8))]
        log.put(Joint(name, parts) if number % 6 == 5 else entry_with(chance, log, name, way[name]))
    for number in range(100):
        later, earlier = name_of(chance.randrange(60)), name_of(chance.randrange(60))
        log.bind(later, earlier, way[later] - way[earlier] - chance.choice([0, 0, 5, 100, 1000]))
    return log, way
