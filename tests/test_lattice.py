import itertools
import random
import unittest

from foldlog.earliest import earliest
from foldlog.entries import Read, Within
from foldlog.errors import NoEntry
from foldlog.latest import latest
from foldlog.lattice import greater, lesser, room
from foldlog.logs import Log
from foldlog.tables import Table
from foldlog.ways import is_way
from framesets import all_ways, small_cases
from logsets import FOLD, LAST, a_log, free_log, full_log, log_of, told_by, within
from paperchecks import check_no_way
from refusals import THIRTY, no_way, refuses


class Room(unittest.TestCase):
    def check(self, log):
        before = told_by(log)
        told = room(log)
        self.assertEqual(told_by(log), before)
        self.assertIs(type(told), dict)
        self.assertEqual(list(told), log.names())
        first, last = earliest(log)[0], latest(log)[0]
        self.assertEqual(told, {name: (first[name], last[name]) for name in log.names()})
        self.assertTrue(all(type(ends) is tuple and ends[0] <= ends[1] for ends in told.values()))
        return told

    def check_refused(self, log):
        return check_no_way(self, log, log, room, log)

    def test_without_entries(self):
        self.assertEqual(self.check(Log()), {})

    def test_every_kind_of_entry(self):
        self.assertEqual(self.check(a_log()), {
            "any": (10, LAST), "within": (20, 40), "at": (17, 17), "between": (9, 20), "read": (15, 20), "joint": (16, 20),
            "sifted": (1, 99)})

    def test_not_every_moment_between_is_one_of_a_way(self):
        # The two are at one moment, and the reading 20 was shown at these alone.
        log = Log()
        log.clock("fold", Table(FOLD))
        log.put(Within("a", 0, 99))
        log.put(Read("b", "fold", 20))
        log.bind("a", "b", 0)
        log.bind("b", "a", 0)
        self.assertEqual(self.check(log), {"a": (15, 20), "b": (15, 20)})
        self.assertEqual([moment for moment in range(15, 21) if is_way(log, {"a": moment, "b": moment})], [15, 16, 20])

    def test_small_logs_gone_through_whole(self):
        told = refused = 0
        for turn, case in enumerate(small_cases(101, 600)):
            moments, bonds = case
            log = log_of(moments, bonds, turn)
            ways = all_ways(moments, bonds)
            if ways:
                wanted = [(min(numbers), max(numbers)) for numbers in zip(*ways)]
                self.assertEqual(list(self.check(log).values()), wanted)
                told += 1
            else:
                self.check_refused(log)
                refused += 1
        self.assertGreater(min(told, refused), 100)

    def test_full_log(self):
        log, way = full_log(11)
        told = self.check(log)
        self.assertTrue(all(told[name][0] <= way[name] <= told[name][1] for name in way))

    def test_refused_with_each_kind_of_paper(self):
        self.assertEqual(self.check_refused(within([3, -1], [(0, 0, 1)])), ("empty", "nb"))
        self.assertEqual(self.check_refused(within([3, 3], [(1, 0, 9), (0, 0, 1)])), ("ring", [1]))
        self.assertEqual(self.check_refused(within([9, 9, 9], [(1, 0, 5), (2, 1, 5)])), ("past", [0, 1]))

    def test_told_is_the_askers_own(self):
        log = free_log(2, [(0, 1, 3)])
        room(log).clear()
        self.assertEqual(room(log), {"na": (3, LAST), "nb": (0, LAST - 3)})
        for log in (free_log(1, [(0, 0, 1)]), within([3, 3], [(1, 0, 4)])):
            no_way(self, room, log)[1].clear()
            self.assertEqual(no_way(self, room, log)[1], [0])


class LesserAndGreater(unittest.TestCase):
    def check(self, one, other):
        before = (list(one.items()), list(other.items()))
        told = (lesser(one, other), greater(one, other))
        self.assertEqual((list(one.items()), list(other.items())), before)
        for by, found in zip((min, max), told):
            self.assertIs(type(found), dict)
            self.assertEqual(list(found.items()), [(name, by(one[name], other[name])) for name in one])
        return told

    def test_by_name(self):
        self.assertEqual(self.check({"a": 1, "b": 5, "c": 3}, {"a": 2, "b": 4, "c": 3}),
                         ({"a": 1, "b": 4, "c": 3}, {"a": 2, "b": 5, "c": 3}))
        self.assertEqual(self.check({}, {}), ({}, {}))
        self.assertEqual(self.check({"x": -THIRTY}, {"x": THIRTY}), ({"x": -THIRTY}, {"x": THIRTY}))
        self.assertEqual(self.check({"x": -7}, {"x": -8}), ({"x": -8}, {"x": -7}))

    def test_order_of_the_first(self):
        for order in itertools.permutations(["a", "b", "c"]):
            told = self.check({name: 3 for name in order}, {"c": 1, "a": 7, "b": 3})
            self.assertEqual([list(found) for found in told], [list(order), list(order)])

    def test_a_dict_and_itself(self):
        one = {"b": 1, "a": 2}
        for told in self.check(one, one):
            self.assertEqual(told, one)
            self.assertIsNot(told, one)
            told.clear()
        self.assertEqual(one, {"b": 1, "a": 2})

    def test_a_name_that_the_second_lacks(self):
        for call in (lesser, greater):
            for one, other, found in (({"a": 1}, {}, "a"), ({"a": 1, "c": 1, "b": 1}, {"a": 1}, "c"),
                                      ({"b": 1, "a": 1}, {}, "b"), ({"a": 1, "b": 1, "c": 1}, {"c": 1, "a": 1}, "b")):
                refuses(self, NoEntry, "found", found, call, one, other)

    def test_a_name_that_the_first_lacks(self):
        for call in (lesser, greater):
            for one, other, found in (({}, {"a": 1}, "a"), ({"a": 1}, {"a": 1, "c": 1, "b": 1}, "c"),
                                      ({"b": 1}, {"z": 1, "b": 1, "a": 1}, "z")):
                refuses(self, NoEntry, "found", found, call, one, other)

    def test_both_lack_names(self):
        # What the second lacks goes first, wherever it stands.
        for call in (lesser, greater):
            for one, other, found in (({"b": 1}, {"a": 1}, "b"), ({"c": 1, "x": 1, "b": 1}, {"a": 1, "z": 1, "c": 1}, "x"),
                                      ({"a": 1, "z": 1}, {"b": 1, "a": 1}, "z")):
                refuses(self, NoEntry, "found", found, call, one, other)

    def test_refused_changes_nothing(self):
        one, other = {"a": 1, "b": 2}, {"b": 3}
        for call in (lesser, greater):
            refuses(self, NoEntry, "found", "a", call, one, other)
        self.assertEqual((one, other), ({"a": 1, "b": 2}, {"b": 3}))

    def test_of_ways_they_are_ways(self):
        chance = random.Random(102)
        tried = 0
        for turn, case in enumerate(small_cases(102, 300)):
            moments, bonds = case
            log = log_of(moments, bonds, turn)
            ways = [dict(zip(log.names(), values)) for values in all_ways(moments, bonds)]
            for one, other in itertools.product(chance.sample(ways, min(len(ways), 6)), repeat=2):
                turned = dict(reversed(list(other.items())))
                for told in self.check(one, turned):
                    self.assertTrue(is_way(log, told))
                tried += one != other
        self.assertGreater(tried, 500)

    def test_of_the_earliest_and_the_latest(self):
        log = a_log()
        first, last = earliest(log)[0], latest(log)[0]
        self.assertEqual(self.check(first, last), (first, last))
        self.assertEqual(self.check(last, first), (first, last))


if __name__ == "__main__":
    unittest.main()
