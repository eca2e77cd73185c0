import unittest

from foldlog.entries import At, Between, Entry, Joint, Read, Sifted, Within
from foldlog.errors import NoBond, NoEntry, NoMinutes, NoMoment, NoName, NoPlace, Taken, TooMany
from foldlog.logs import Log
from foldlog.tables import Table
from logsets import FOLD, LAST, a_log, free_log, name_of, told_by
from refusals import ODD_THINGS, THIRTY, a_function, deep_list, refuses

TABLE = Table([(0, 60)])
NO_NUMBERS = [thing for thing in ODD_THINGS if isinstance(thing, bool) or not isinstance(thing, int)] + [deep_list()]
NO_MINUTES = NO_NUMBERS + [-2000000001, 2000000002, THIRTY, -THIRTY]
NO_NAMES = [thing for thing in ODD_THINGS if thing not in ("a", "abc")] + ["abcdefghi", "A", "a1", "a b", "a\n", 0, 7, deep_list()]
UNKNOWN = ODD_THINGS + ["unknown", "Any", "any ", 0, 7, deep_list(), At("any", 3), Table([(0, 0)])]


def full_places():
    log = Log()
    for place in "fcbeda":
        log.clock(place, TABLE)
    return log


class Empty(unittest.TestCase):
    def test_begins_without_anything(self):
        log = Log()
        self.assertEqual((log.names(), log.bonds(), log.places(), log.readings(0)), ([], [], [], {}))

    def test_two_logs_have_nothing_in_common(self):
        one, other = Log(), Log()
        one.clock("here", TABLE)
        one.put(At("a", 3))
        one.bind("a", "a", 0)
        self.assertEqual((other.names(), other.bonds(), other.places()), ([], [], []))


class Clock(unittest.TestCase):
    def test_a_place_gets_a_table(self):
        log = Log()
        self.assertIsNone(log.clock("here", TABLE))
        self.assertEqual(log.places(), ["here"])
        self.assertIs(log.table("here"), TABLE)

    def test_a_new_table_for_a_place(self):
        log = Log()
        log.clock("here", Table([(0, 0)]))
        log.put(Read("a", "here", 20))
        log.put(Between("b", "here", 20, 30))
        log.put(Joint("c", [Read("x", "here", 20), Within("x", 0, 18)]))
        log.put(Sifted("d", Read("x", "here", 20), lambda moment: moment > 15))
        names = log.names()
        self.assertEqual([log.spans(name) for name in names], [[(20, 20)], [(20, 30)], [], [(20, 20)]])
        log.clock("here", Table(FOLD))
        told = [log.spans(name) for name in names]
        self.assertEqual(told, [[(15, 16), (20, 20)], [(15, 30)], [(15, 16)], [(16, 16), (20, 20)]])
        self.assertEqual((log.names(), log.places()), (names, ["here"]))
        log.clock("here", Table([(0, 60)]))
        self.assertEqual([log.spans(name) for name in names], [[]] * 4)

    def test_another_place_changes_no_entry(self):
        log = Log()
        log.clock("here", TABLE)
        log.clock("there", TABLE)
        log.put(Read("a", "here", 70))
        log.clock("there", Table([(0, 5)]))
        self.assertEqual(log.spans("a"), [(10, 10)])

    def test_six_and_seven_places(self):
        log = full_places()
        self.assertEqual(log.places(), ["a", "b", "c", "d", "e", "f"])
        before = told_by(log)
        refuses(self, TooMany, "many", 7, log.clock, "g", TABLE)
        self.assertEqual(told_by(log), before)
        other = Table([(0, 1)])
        log.clock("c", other)
        self.assertIs(log.table("c"), other)
        self.assertEqual(log.places(), ["a", "b", "c", "d", "e", "f"])

    def test_no_name(self):
        for log in (Log(), full_places()):
            before = told_by(log)
            for thing in NO_NAMES:
                refuses(self, NoName, "found", thing, log.clock, thing, TABLE)
            self.assertEqual(told_by(log), before)


class Put(unittest.TestCase):
    def test_behind_all_others(self):
        log = Log()
        entries = [At("z", 3), At("a", 9), Entry("m")]
        for entry in entries:
            self.assertIsNone(log.put(entry))
        self.assertEqual(log.names(), ["z", "a", "m"])
        for entry in entries:
            self.assertIs(log.entry(entry.name), entry)

    def test_one_entry_in_two_logs(self):
        entry = At("a", 3)
        one, other = Log(), Log()
        one.put(entry)
        other.put(entry)
        one.drop("a")
        self.assertIs(other.entry("a"), entry)

    def test_names_of_parts_play_no_part(self):
        log = Log()
        log.put(Joint("a", [At("a", 3), At("b", 3)]))
        log.put(At("b", 4))
        log.put(Sifted("x", At("x", 3), a_function))
        self.assertEqual(log.names(), ["a", "b", "x"])

    def test_60_and_61_entries(self):
        log = free_log(59)
        log.put(At("last", 3))
        self.assertEqual(len(log.names()), 60)
        before = told_by(log)
        refuses(self, TooMany, "many", 61, log.put, Entry("more"))
        self.assertEqual(told_by(log), before)
        log.drop("last")
        log.put(Entry("more"))
        self.assertEqual(log.names()[-1], "more")

    def test_no_entry(self):
        for log in (a_log(), free_log(60)):
            before = told_by(log)
            for thing in ODD_THINGS + [deep_list(), 7, "any", log, TABLE, [At("a", 3)]]:
                refuses(self, NoEntry, "found", thing, log.put, thing)
            self.assertEqual(told_by(log), before)

    def test_taken(self):
        log = a_log()
        before = told_by(log)
        for entry in (At("any", 3), log.entry("joint"), Read("read", "gone", 3)):
            refuses(self, Taken, "found", entry.name, log.put, entry)
        self.assertEqual(told_by(log), before)

    def test_no_place(self):
        log = a_log()
        before = told_by(log)
        for entry in (Read("new", "gone", 3), Between("new", "gone", 9, 3), Sifted("new", Read("x", "gone", 3), a_function),
                      Joint("new", [At("x", 3), Read("x", "fold", 3), Read("x", "gone", 3), Read("x", "away", 3)])):
            refuses(self, NoPlace, "found", "gone", log.put, entry)
        self.assertEqual(told_by(log), before)
        log.clock("gone", TABLE)
        log.put(Read("new", "gone", 63))
        self.assertEqual(log.spans("new"), [(3, 3)])

    def test_order_of_refusals(self):
        log = free_log(60)
        before = told_by(log)
        name = name_of(0)
        refuses(self, NoEntry, "found", None, log.put, None)
        refuses(self, Taken, "found", name, log.put, Read(name, "gone", 3))
        refuses(self, NoPlace, "found", "gone", log.put, Read("new", "gone", 3))
        refuses(self, TooMany, "many", 61, log.put, At("new", 3))
        self.assertEqual(told_by(log), before)


class Bind(unittest.TestCase):
    def test_behind_all_others(self):
        log = free_log(3)
        told = [log.bind("na", "nb", 5), log.bind("nc", "na", -7), log.bind("na", "nb", 5), log.bind("nb", "nb", 0)]
        self.assertEqual(told, [0, 1, 2, 3])
        self.assertTrue(all(type(number) is int for number in told))
        self.assertEqual(log.bonds(), [("na", "nb", 5), ("nc", "na", -7), ("na", "nb", 5), ("nb", "nb", 0)])

    def test_an_entry_with_itself(self):
        log = free_log(1)
        for place, minutes in enumerate((-3, 0, 4)):
            self.assertEqual(log.bind("na", "na", minutes), place)
        self.assertEqual(log.bonds(), [("na", "na", -3), ("na", "na", 0), ("na", "na", 4)])

    def test_bounds_of_minutes(self):
        log = free_log(1)
        log.bind("na", "na", -2000000000)
        log.bind("na", "na", 2000000001)
        self.assertEqual(log.bonds(), [("na", "na", -2000000000), ("na", "na", 2000000001)])

    def test_100_and_101_bonds(self):
        log = free_log(2, [(0, 1, number) for number in range(99)])
        self.assertEqual(log.bind("na", "nb", 7), 99)
        before = told_by(log)
        refuses(self, TooMany, "many", 101, log.bind, "na", "nb", 7)
        self.assertEqual(told_by(log), before)
        log.unbind(0)
        self.assertEqual(log.bind("nb", "na", 8), 99)

    def test_no_entry(self):
        log = a_log()
        before = told_by(log)
        for thing in UNKNOWN:
            refuses(self, NoEntry, "found", thing, log.bind, thing, "any", 5)
            refuses(self, NoEntry, "found", thing, log.bind, "any", thing, 5)
            refuses(self, NoEntry, "found", thing, log.bind, thing, "gone", None)
            refuses(self, NoEntry, "found", thing, log.bind, "any", thing, None)
        self.assertEqual(told_by(log), before)

    def test_no_minutes(self):
        log = a_log()
        before = told_by(log)
        for thing in NO_MINUTES:
            refuses(self, NoMinutes, "found", thing, log.bind, "any", "at", thing)
        self.assertEqual(told_by(log), before)

    def test_order_of_refusals(self):
        log = free_log(2, [(0, 1, number) for number in range(100)])
        before = told_by(log)
        refuses(self, NoEntry, "found", "one", log.bind, "one", "other", None)
        refuses(self, NoEntry, "found", "other", log.bind, "na", "other", None)
        refuses(self, NoMinutes, "found", None, log.bind, "na", "nb", None)
        refuses(self, TooMany, "many", 101, log.bind, "na", "nb", 0)
        self.assertEqual(told_by(log), before)


class Unbind(unittest.TestCase):
    def test_numbers_behind_it_fall(self):
        bonds = [(0, 1, number) for number in range(5)]
        for taken in range(5):
            log = free_log(2, bonds)
            self.assertIsNone(log.unbind(taken))
            left = [bond for place, bond in enumerate(bonds) if place != taken]
            self.assertEqual(log.bonds(), [("na", "nb", minutes) for later, earlier, minutes in left])
            self.assertEqual(log.bind("nb", "na", 9), 4)
            self.assertEqual(log.names(), ["na", "nb"])

    def test_equal_bonds(self):
        log = free_log(2, [(0, 1, 3), (1, 0, 4), (0, 1, 3)])
        log.unbind(2)
        self.assertEqual(log.bonds(), [("na", "nb", 3), ("nb", "na", 4)])

    def test_no_bond(self):
        log = a_log()
        before = told_by(log)
        for thing in NO_NUMBERS + [5, 6, 100, -1, -5, THIRTY, -THIRTY]:
            refuses(self, NoBond, "found", thing, log.unbind, thing)
        self.assertEqual(told_by(log), before)
        refuses(self, NoBond, "found", 0, Log().unbind, 0)
        log.unbind(4)
        refuses(self, NoBond, "found", 4, log.unbind, 4)


class Drop(unittest.TestCase):
    def test_with_its_bonds(self):
        log = free_log(4, [(0, 1, 1), (1, 2, 2), (2, 2, 3), (3, 0, 4), (2, 3, 5), (1, 0, 6), (0, 0, 7), (2, 1, 8)])
        self.assertIsNone(log.drop("nc"))
        self.assertEqual(log.names(), ["na", "nb", "nd"])
        self.assertEqual(log.bonds(), [("na", "nb", 1), ("nd", "na", 4), ("nb", "na", 6), ("na", "na", 7)])
        self.assertEqual(log.bind("nd", "nb", 9), 4)
        log.drop("na")
        self.assertEqual(log.bonds(), [("nd", "nb", 9)])
        refuses(self, NoEntry, "found", "nc", log.entry, "nc")

    def test_places_stay(self):
        log = a_log()
        log.drop("read")
        log.drop("between")
        log.drop("joint")
        self.assertEqual(log.places(), ["even", "fold"])

    def test_put_in_again_is_the_last_one(self):
        log = free_log(3)
        log.drop("na")
        log.put(At("na", 5))
        self.assertEqual(log.names(), ["nb", "nc", "na"])
        self.assertEqual(log.spans("na"), [(5, 5)])

    def test_no_entry(self):
        log = a_log()
        before = told_by(log)
        for thing in UNKNOWN:
            refuses(self, NoEntry, "found", thing, log.drop, thing)
        self.assertEqual(told_by(log), before)


class Told(unittest.TestCase):
    def test_spans_of_each_kind(self):
        log = a_log()
        names = ["any", "within", "at", "between", "read", "joint"]
        self.assertEqual([log.spans(name) for name in names], [
            [(0, LAST)], [(3, 40)], [(17, 17)], [(9, 18), (20, 22)], [(15, 16), (20, 20)], [(15, 16), (20, 20)]])
        self.assertEqual(log.spans("sifted"), [(number, number) for number in range(1, 100, 2)])

    def test_no_entry(self):
        log = a_log()
        for thing in UNKNOWN:
            refuses(self, NoEntry, "found", thing, log.entry, thing)
            refuses(self, NoEntry, "found", thing, log.spans, thing)
        refuses(self, NoEntry, "found", "a", Log().spans, "a")

    def test_no_place(self):
        log = a_log()
        for thing in UNKNOWN + ["any", "FOLD"]:
            refuses(self, NoPlace, "found", thing, log.table, thing)

    def test_bonds_are_tuples_of_names_and_a_number(self):
        told = a_log().bonds()
        self.assertIs(type(told), list)
        self.assertTrue(all(type(bond) is tuple and len(bond) == 3 for bond in told))
        self.assertEqual(told[0], ("within", "at", 3))

    def test_readings(self):
        log = full_places()
        log.clock("b", Table(FOLD))
        told = log.readings(15)
        self.assertEqual(list(told.items()), [("a", 75), ("b", 20), ("c", 75), ("d", 75), ("e", 75), ("f", 75)])
        self.assertEqual(log.readings(LAST)["b"], LAST)
        self.assertEqual(log.readings(0)["a"], 60)
        self.assertEqual(Log().readings(LAST), {})

    def test_no_moment(self):
        for log in (Log(), a_log()):
            for thing in NO_NUMBERS + [-1, LAST + 1, THIRTY, -THIRTY]:
                refuses(self, NoMoment, "found", thing, log.readings, thing)

    def test_told_is_the_askers_own(self):
        log = a_log()
        before = told_by(log)
        for told in (log.names(), log.bonds(), log.places(), log.spans("any"), log.spans("read"), log.spans("joint")):
            told.append("more")
            told.reverse()
        log.readings(5).clear()
        log.names().clear()
        log.bonds().clear()
        log.places().clear()
        self.assertEqual(told_by(log), before)

    def test_what_was_told_stays(self):
        log = a_log()
        told = (log.names(), log.bonds(), log.places(), log.spans("read"), log.readings(5))
        wanted = (list(told[0]), list(told[1]), list(told[2]), list(told[3]), dict(told[4]))
        log.clock("fold", TABLE)
        log.clock("new", TABLE)
        log.drop("at")
        log.put(At("new", 3))
        log.bind("new", "new", 0)
        self.assertEqual(told, wanted)


class Copied(unittest.TestCase):
    def test_tells_the_same(self):
        for log in (Log(), a_log(), full_places(), free_log(60, [(0, 1, 3)])):
            before = told_by(log)
            copy = log.copied()
            self.assertIs(type(copy), Log)
            self.assertIsNot(copy, log)
            self.assertEqual(told_by(copy), before)
            self.assertEqual(told_by(log), before)

    def change(self, log):
        log.clock("fold", TABLE)
        log.clock("new", TABLE)
        log.put(At("new", 3))
        log.bind("new", "any", 4)
        log.unbind(0)
        log.drop("read")

    def test_they_go_their_own_ways(self):
        log = a_log()
        before = told_by(log)
        copy = log.copied()
        self.change(copy)
        self.assertEqual(told_by(log), before)
        changed = told_by(copy)
        self.assertNotEqual(changed, before)
        other = log.copied()
        self.change(log)
        self.assertEqual(told_by(other), before)
        self.assertEqual(told_by(copy), changed)

    def test_entries_and_tables_are_the_very_ones(self):
        log = a_log()
        copy = log.copied()
        for name in log.names():
            self.assertIs(copy.entry(name), log.entry(name))
        for place in log.places():
            self.assertIs(copy.table(place), log.table(place))


if __name__ == "__main__":
    unittest.main()
