"""The refusals of this package, each with what it was made of as its fields."""

# The words of a refusal are fixed: what it was made of may be any thing, and
# writing out a thing that is nested deeply could itself fail.


class LogError(ValueError):
    def __init__(self, text):
        ValueError.__init__(self, text)


class NoSpans(LogError):
    def __init__(self, at):
        LogError.__init__(self, "no stretches")
        self.at = at


class NoText(LogError):
    def __init__(self, at):
        LogError.__init__(self, "not a text that can be read")
        self.at = at


class NoTable(LogError):
    def __init__(self, row):
        LogError.__init__(self, "no rows of a table")
        self.row = row


class Beyond(LogError):
    def __init__(self, row):
        LogError.__init__(self, "a row beyond the bounds of shifts")
        self.row = row


class TooMany(LogError):
    def __init__(self, many):
        LogError.__init__(self, "too many")
        self.many = many


class NoMoment(LogError):
    def __init__(self, found):
        LogError.__init__(self, "no moment")
        self.found = found


class NoReading(LogError):
    def __init__(self, found):
        LogError.__init__(self, "no reading")
        self.found = found


class NoShift(LogError):
    def __init__(self, found):
        LogError.__init__(self, "no shift")
        self.found = found


class NoName(LogError):
    def __init__(self, found):
        LogError.__init__(self, "no name")
        self.found = found


class NoPlace(LogError):
    def __init__(self, found):
        LogError.__init__(self, "no place that is known")
        self.found = found


class NoEntry(LogError):
    def __init__(self, found):
        LogError.__init__(self, "no entry that is known")
        self.found = found


class Taken(LogError):
    def __init__(self, found):
        LogError.__init__(self, "a name that is taken")
        self.found = found


class NoMinutes(LogError):
    def __init__(self, found):
        LogError.__init__(self, "no minutes")
        self.found = found


class NoBond(LogError):
    def __init__(self, found):
        LogError.__init__(self, "no bond's number")
        self.found = found


class NoPaper(LogError):
    def __init__(self, found):
        LogError.__init__(self, "no paper of the log")
        self.found = found


class NoLine(LogError):
    def __init__(self, found):
        LogError.__init__(self, "no line that is known")
        self.found = found


class NoWay(LogError):
    def __init__(self, paper):
        LogError.__init__(self, "the log has no way")
        self.paper = paper


class Unlike(LogError):
    def __init__(self, place, moment):
        LogError.__init__(self, "two tables of one place show unlike readings")
        self.place = place
        self.moment = moment


class Unwritten(LogError):
    def __init__(self, name):
        LogError.__init__(self, "an entry that has no form")
        self.name = name
