import itertools
import random
import unittest

from foldlog.entries import At, Between, Entry, Joint, Read, Sifted, Within
from foldlog.errors import NoEntry, TooMany, Unlike
from foldlog.joins import picked, put_together
from foldlog.logs import Log
from foldlog.tables import Table
from foldlog.ways import is_way
from framesets import all_ways, small_cases
from logsets import FOLD, a_log, entry_of, free_log, full_log, log_of, name_of, told_by, within
from refusals import ODD_THINGS, deep_list, refuses

EVEN = [(0, 0)]


def log_with(places=(), entries=(), bonds=()):
    log = Log()
    for place, rows in places:
        log.clock(place, Table(rows))
    for entry in entries:
        log.put(entry)
    for bond in bonds:
        log.bind(*bond)
    return log


def entries_named(names):
    return [Entry(name) for name in names]


def refuses_unlike(case, place, moment, one, other):
    with case.assertRaises(Unlike) as caught:
        put_together(one, other)
    case.assertEqual(vars(caught.exception), {"place": place, "moment": moment})


class Together(unittest.TestCase):
    def check(self, one, other):
        before = (told_by(one), told_by(other))
        told = put_together(one, other)
        self.assertEqual((told_by(one), told_by(other)), before)
        self.assertIs(type(told), Log)
        self.assertEqual(told.places(), sorted(set(one.places() + other.places())))
        for place in told.places():
            self.assertIs(told.table(place), (one if place in one.places() else other).table(place))
        names = one.names() + [name for name in other.names() if name not in one.names()]
        self.assertEqual(told.names(), names)
        self.assertEqual(told.bonds(), one.bonds() + other.bonds())
        for name in names:
            self.check_entry(told.entry(name), one, other, name)
        return told

    def check_entry(self, entry, one, other, name):
        logs = [log for log in (one, other) if name in log.names()]
        if name not in one.names() or name not in other.names():
            self.assertIs(entry, logs[0].entry(name))
            return
        parts = []
        for log in logs:
            own = log.entry(name)
            parts += own.parts() if type(own) is Joint else [own]
        self.assertIs(type(entry), Joint)
        self.assertEqual((entry.name, entry.parts()), (name, parts))

    def test_nothing(self):
        self.check(Log(), Log())
        self.check(a_log(), Log())
        self.check(Log(), a_log())

    def test_of_unlike_names(self):
        one = log_with([("here", EVEN)], [Read("b", "here", 5), Entry("a")], [("b", "a", 3)])
        other = log_with([("else", FOLD)], [Read("d", "else", 5), At("c", 9)], [("d", "c", 3), ("d", "c", 3)])
        self.check(one, other)
        self.check(other, one)

    def test_of_common_names(self):
        one = log_with([("here", EVEN)], [Within("b", 3, 9), Entry("a"), Read("c", "here", 5)], [("b", "a", 3)])
        other = log_with([("fold", FOLD)], [Read("c", "fold", 22), Within("b", 7, 20), At("d", 9)], [("b", "c", 3), ("b", "d", 3)])
        told = self.check(one, other)
        self.assertEqual(told.spans("b"), [(7, 9)])
        self.assertEqual(told.spans("c"), [])
        self.assertEqual(self.check(other, one).names(), ["c", "b", "d", "a"])

    def test_a_log_and_itself(self):
        one = log_with([("here", EVEN)], [Within("b", 3, 9), Entry("a"), Read("c", "here", 5)], [("b", "a", 3), ("a", "a", 0)])
        told = self.check(one, one)
        self.assertEqual([told.spans(name) for name in told.names()], [one.spans(name) for name in one.names()])
        self.assertEqual(told.bonds(), one.bonds() * 2)
        self.check(told, told)

    def test_joint_ones(self):
        parts = [Within("x", low, 99) for low in range(8)]
        for many in range(1, 8):
            one = log_with([], [Joint("a", parts[:many])])
            other = log_with([], [Joint("a", parts[many:])])
            self.assertEqual(self.check(one, other).entry("a").parts(), parts)
            self.assertEqual(self.check(one, log_with([], [parts[0], At("a", 5)])).spans("a"), [(5, 5)] if many <= 6 else [])
        for many in (2, 5, 8):
            one = log_with([], [Joint("a", parts[:many])])
            other = log_with([], [Joint("a", parts[:9 - many])])
            refuses(self, TooMany, "many", 9, put_together, one, other)
            refuses(self, TooMany, "many", 9, put_together, other, one)
        eight = log_with([], [Joint("a", parts)])
        refuses(self, TooMany, "many", 16, put_together, eight, eight)
        refuses(self, TooMany, "many", 9, put_together, eight, log_with([], [Entry("a")]))
        self.check(eight, log_with([], [Entry("b")]))

    def test_sifted_parts(self):
        sifted = Sifted("a", Within("x", 0, 9), lambda moment: moment % 2 == 1)
        told = self.check(log_with([], [sifted]), log_with([], [Within("a", 4, 9)]))
        self.assertEqual(told.spans("a"), [(5, 5), (7, 7), (9, 9)])
        self.assertIs(told.entry("a").parts()[0], sifted)

    def test_tables_that_show_the_same(self):
        one = log_with([("here", [(0, 5), (9, 5), (20, 0)])], [Read("a", "here", 7)])
        other = log_with([("here", [(0, 5), (20, 0)])], [Read("b", "here", 7)])
        self.check(one, other)

    def test_unlike_tables(self):
        one = log_with([("b", EVEN), ("c", EVEN), ("a", EVEN)])
        refuses_unlike(self, "c", 50, one, log_with([("c", [(0, 0), (50, 1)])]))
        other = log_with([("c", [(0, 1)]), ("b", [(0, 0), (50, 1)])])
        refuses_unlike(self, "b", 50, one, other)
        refuses_unlike(self, "b", 50, other, one)
        refuses_unlike(self, "a", 10 ** 9, one, log_with([("a", [(0, 0), (10 ** 9, 1)])]))

    def test_six_places(self):
        places = [(name, EVEN) for name in "abcdefghi"]
        self.check(log_with(places[:6]), log_with(places[:6]))
        self.check(log_with(places[:4]), log_with(places[2:6]))
        for low, many in ((1, 7), (2, 8), (3, 9)):
            refuses(self, TooMany, "many", many, put_together, log_with(places[:6]), log_with(places[low:low + 6]))
        refuses(self, TooMany, "many", 7, put_together, log_with(places[:1]), log_with(places[1:7]))

    def test_sixty_entries(self):
        names = [name_of(number) for number in range(120)]
        self.check(free_log(60), free_log(60))
        self.check(log_with([], entries_named(names[:30])), log_with([], entries_named(names[20:60])))
        for low, many in ((1, 61), (60, 120)):
            one, other = log_with([], entries_named(names[:60])), log_with([], entries_named(names[low:low + 60]))
            refuses(self, TooMany, "many", many, put_together, one, other)
        refuses(self, TooMany, "many", 61, put_together, log_with([], entries_named(names[:1])), log_with([], entries_named(names[1:61])))

    def test_a_hundred_bonds(self):
        self.check(free_log(1, [(0, 0, 0)] * 60), free_log(1, [(0, 0, 0)] * 40))
        refuses(self, TooMany, "many", 101, put_together, free_log(1, [(0, 0, 0)] * 61), free_log(1, [(0, 0, 0)] * 40))
        refuses(self, TooMany, "many", 200, put_together, free_log(1, [(0, 0, 0)] * 100), free_log(1, [(0, 0, 0)] * 100))

    def test_which_refusal_goes_first(self):
        # Each is due with all that come behind it.
        names = [name_of(number) for number in range(60)]
        long, longer = [[Joint(name, entries_named(["x"] * many)) for name in "pq"] for many in (5, 6)]
        bonds = [("p", "p", 0)] * 60
        one = log_with([(place, EVEN) for place in "abcdef"], long + entries_named(names[:30]), bonds)
        unlike = [(0, 0), (7, 1)]
        other = log_with([("g", EVEN), ("b", unlike)], longer + entries_named(names[30:]), bonds)
        refuses(self, TooMany, "many", 7, put_together, one, other)
        other = log_with([("b", unlike)], longer + entries_named(names[30:]), bonds)
        refuses_unlike(self, "b", 7, one, other)
        other = log_with([("b", EVEN)], longer + entries_named(names[30:]), bonds)
        refuses(self, TooMany, "many", 11, put_together, one, other)
        other = log_with([], entries_named(["p"] + names[30:]), bonds)
        refuses(self, TooMany, "many", 62, put_together, one, other)
        other = log_with([], entries_named(["p"]), bonds)
        refuses(self, TooMany, "many", 120, put_together, one, other)
        self.check(one, log_with([], entries_named(["p"]), bonds[:40]))

    def test_the_first_joint_in_the_order_of_one(self):
        def joint(name, many):
            return Joint(name, entries_named(["x"] * many))
        one = log_with([], [joint("z", 4), joint("m", 5), joint("a", 6)])
        other = log_with([], [joint("a", 8), joint("m", 6), joint("z", 4)])
        refuses(self, TooMany, "many", 11, put_together, one, other)
        refuses(self, TooMany, "many", 14, put_together, other, one)

    def test_refused_changes_nothing(self):
        one, other = a_log(), log_with([("fold", EVEN)])
        before = (told_by(one), told_by(other))
        refuses_unlike(self, "fold", 10, one, other)
        self.assertEqual((told_by(one), told_by(other)), before)

    def test_ways_of_small_logs(self):
        chance = random.Random(171)
        tried = 0
        cases = [case for case in small_cases(171, 600, 0, 5) if len(case[0]) <= 3]
        for turn in range(0, len(cases) - 1, 2):
            one = log_of(cases[turn][0], cases[turn][1], turn)
            other = Log()
            other.clock("even", Table([(0, 0), (5, 0)]))
            names = [name_of(number + 1) for number in range(len(cases[turn + 1][0]))]
            for name, numbers in zip(names, cases[turn + 1][0]):
                other.put(entry_of(name, numbers, chance))
            for later, earlier, minutes in cases[turn + 1][1]:
                other.bind(names[later], names[earlier], minutes)
            told = self.check(one, other)
            tried += self.check_ways(told, one, other)
        self.assertGreater(tried, 200)

    def check_ways(self, told, one, other):
        found = 0
        for values in itertools.product(range(5), repeat=len(told.names())):
            way = dict(zip(told.names(), values))
            parts = [{name: way[name] for name in log.names()} for log in (one, other)]
            wanted = is_way(one, parts[0]) and is_way(other, parts[1])
            self.assertIs(is_way(told, way), wanted)
            found += wanted
        return found

    def test_nothing_in_common(self):
        one, other = a_log(), log_with([("far", EVEN)], [Read("at", "far", 17), Entry("new")], [("at", "new", 0)])
        before = (told_by(one), told_by(other))
        told = put_together(one, other)
        wanted = told_by(put_together(one, other))
        told.drop("any")
        told.unbind(0)
        told.clock("fold", Table(EVEN))
        self.assertEqual((told_by(one), told_by(other)), before)
        told = put_together(one, other)
        one.drop("any")
        other.unbind(0)
        other.clock("far", Table([(0, 9)]))
        self.assertEqual({**told_by(told), "entries": None}, {**wanted, "entries": None})


class Picked(unittest.TestCase):
    def check(self, log, names):
        before, handed = told_by(log), list(names)
        told = picked(log, names)
        self.assertEqual((told_by(log), names), (before, handed))
        self.assertIs(type(told), Log)
        self.assertIsNot(told, log)
        self.assertEqual(told.places(), log.places())
        self.assertEqual([told.table(place) for place in log.places()], [log.table(place) for place in log.places()])
        self.assertEqual(told.names(), [name for name in log.names() if name in names])
        for name in told.names():
            self.assertIs(told.entry(name), log.entry(name))
        wanted = [bond for bond in log.bonds() if bond[0] in names and bond[1] in names]
        self.assertEqual(told.bonds(), wanted)
        return told

    def test_ordinary(self):
        log = a_log()
        self.assertEqual(self.check(log, ["at", "within"]).bonds(), [("within", "at", 3)])
        self.assertEqual(self.check(log, ["within", "at"]).names(), ["within", "at"])
        self.assertEqual(self.check(log, ["any", "read", "any", "read", "read"]).bonds(), [("any", "read", -5), ("any", "any", 0)])
        self.check(log, [])
        self.check(log, log.names())
        self.check(log, list(reversed(log.names())) * 3)
        self.check(Log(), [])

    def test_all_parts_of_a_log(self):
        log = a_log()
        for many in range(len(log.names()) + 1):
            for names in itertools.combinations(log.names(), many):
                self.check(log, list(names))

    def test_full_log(self):
        log, way = full_log(61)
        chance = random.Random(61)
        for turn in range(10):
            names = chance.sample(log.names(), chance.randint(0, 60))
            told = self.check(log, names)
            self.assertTrue(is_way(told, {name: way[name] for name in names}))

    def test_the_part_of_a_way_is_a_way(self):
        chance = random.Random(172)
        tried = 0
        for turn, case in enumerate(small_cases(172, 200)):
            log = log_of(case[0], case[1], turn)
            names = [name for name in log.names() if chance.random() < 0.6]
            told = self.check(log, names)
            for values in all_ways(*case)[:20]:
                way = dict(zip(log.names(), values))
                self.assertTrue(is_way(told, {name: way[name] for name in names}))
                tried += 1
        self.assertGreater(tried, 300)

    def test_refused(self):
        log = a_log()
        before = told_by(log)
        for thing in ODD_THINGS + ["x", "AT", deep_list(), log, log.entry("at"), 0]:
            refuses(self, NoEntry, "found", thing, picked, log, [thing])
            refuses(self, NoEntry, "found", thing, picked, log, ["at", "any", thing, "y", None])
            refuses(self, NoEntry, "found", thing, picked, Log(), [thing, "at"])
        self.assertEqual(told_by(log), before)

    def test_nothing_in_common(self):
        log = a_log()
        before = told_by(log)
        names = ["at", "within"]
        told = picked(log, names)
        wanted = told_by(told)
        told.unbind(0)
        told.drop("at")
        told.clock("fold", Table(EVEN))
        self.assertEqual(told_by(log), before)
        told = picked(log, names)
        names.clear()
        log.drop("at")
        log.clock("even", Table(EVEN))
        self.assertEqual(told_by(told), wanted)

    def test_joint_and_read_ones_keep_their_moments(self):
        log = within([3], [])
        log.clock("fold", Table(FOLD))
        log.put(Joint("j", [Between("x", "fold", 9, 22), Within("y", 12, 40)]))
        self.assertEqual(self.check(log, ["j"]).spans("j"), log.spans("j"))


if __name__ == "__main__":
    unittest.main()
