"""A desk: it keeps a log and a shelf of logs, and is told lines."""

from foldlog.asking import ASKING
from foldlog.doing import DOING
from foldlog.errors import NoEntry, NoLine
from foldlog.joins import put_together
from foldlog.linewords import words_in
from foldlog.logs import Log
from foldlog.logtext import DEEDS, deed_in, do_deed

SHELVING = {"shelve": "S", "fetch": "S", "join": "S", "shelf": ""}


def kinds_of(word, many):
    # The kinds of the words that stand behind the first one, or None where there is
    # no such line; many is how many do.
    if word == "pick":
        return "E" * max(many, 1)
    if word in ASKING:
        return ASKING[word][0]
    if word in DOING:
        return DOING[word][0]
    return SHELVING.get(word)


def told_by_words(words):
    kinds = kinds_of(words[0], len(words) - 1)
    return None if kinds is None else words_in(kinds, words[1:])


class Desk:
    def __init__(self):
        self.log = Log()
        self.shelf = {}

    def say(self, line):
        if not isinstance(line, str):
            raise NoLine(line)
        words = line.split(" ")
        if words[0] in DEEDS:
            return self.put_in(line)
        told = told_by_words(words)
        if told is None:
            raise NoLine(line)
        if words[0] in ASKING:
            answer = ASKING[words[0]][1]
            return answer(self.log, told)
        if words[0] in DOING:
            return self.change(words[0], told)
        if words[0] == "shelf":
            return sorted(self.shelf)
        return self.use_shelf(words[0], told[0])

    def put_in(self, line):
        deed = deed_in(line)
        if deed is None:
            raise NoLine(line)
        number = do_deed(self.log, deed)
        return [] if number is None else [str(number)]

    def change(self, word, told):
        deed = DOING[word][1]
        done = deed(self.log, told)
        self.log = done[0]
        return done[1]

    def use_shelf(self, word, name):
        if word == "shelve":
            self.shelf[name] = self.log.copied()
            return []
        if name not in self.shelf:
            raise NoEntry(name)
        if word == "fetch":
            self.log = self.shelf[name].copied()
        else:
            self.log = put_together(self.log, self.shelf[name])
        return []
