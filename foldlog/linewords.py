"""The words of lines: names, clocks, and numbers plainly written."""

from foldlog.clocks import clock_in
from foldlog.words import LAST, MOST_MINUTES, WIDEST_READING, is_name, whole_in

MOST_NUMBER = 999999


def word_in(kind, word):
    # What a word tells, or None: C is the clock of a moment, R that of a reading, N a
    # number, M minutes, and each other kind a name.
    if kind == "C":
        return clock_in(word, 0, LAST)
    if kind == "R":
        return clock_in(word, -WIDEST_READING, WIDEST_READING)
    if kind == "N":
        return whole_in(word, 0, MOST_NUMBER)
    if kind == "M":
        return whole_in(word, 1 - MOST_MINUTES, MOST_MINUTES)
    return word if is_name(word) else None


def words_in(kinds, words):
    # The list of what the words tell, each of its kind, or None.
    if len(words) != len(kinds):
        return None
    told = [word_in(kind, word) for kind, word in zip(kinds, words)]
    return None if None in told else told
