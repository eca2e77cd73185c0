import unittest

from foldlog.earliest import earliest
from foldlog.entries import At, Entry, Sifted, Within
from foldlog.errors import NoEntry, NoMoment
from foldlog.logs import Log
from foldlog.pins import pinned, way_at
from foldlog.ways import is_way
from framesets import all_ways, small_cases
from logsets import LAST, a_log, free_log, full_log, log_of, numbers_in, told_by, within
from paperchecks import check_no_way
from refusals import ODD_THINGS, THIRTY, a_function, deep_list, no_way, refuses

NO_MOMENTS = [-1, LAST + 1, THIRTY, -THIRTY, True, False, None, "0", "0.00.00", [5], (5,), {}, a_function, deep_list()]


class Pinned(unittest.TestCase):
    def check(self, log, name, moment):
        before = told_by(log)
        told = pinned(log, name, moment)
        self.assertEqual(told_by(log), before)
        self.assertIs(type(told), Log)
        self.assertEqual((told.names(), told.bonds(), told.places()), (log.names(), log.bonds(), log.places()))
        for place in log.places():
            self.assertIs(told.table(place), log.table(place))
        for other in log.names():
            self.assertEqual(told.entry(other).name, other)
            if other != name:
                self.assertIs(told.entry(other), log.entry(other))
        own = moment in numbers_in(log.spans(name)) if log.spans(name) != [(0, LAST)] else True
        self.assertEqual(told.spans(name), [(moment, moment)] if own else [])
        return told

    def test_every_kind_of_entry(self):
        log = a_log()
        for name in log.names():
            for moment in (0, 1, 3, 9, 15, 16, 17, 18, 19, 20, 40, 41, 99, 100, LAST):
                self.check(log, name, moment)

    def test_first_and_last_moment(self):
        log = free_log(1)
        for moment in (0, LAST):
            self.check(log, "na", moment)

    def test_an_entry_without_moments(self):
        log = within([-1, 3], [])
        for moment in (0, 1, LAST):
            self.check(log, "na", moment)

    def test_full_log(self):
        log, way = full_log(21)
        for name in log.names():
            self.check(log, name, way[name])
            if log.spans(name) != [(0, LAST)]:
                self.check(log, name, log.spans(name)[-1][1] + 1)

    def test_sifted_moments_that_were_not_kept(self):
        log = Log()
        log.put(Sifted("odd", Within("x", 0, 99), lambda moment: moment % 2 == 1))
        self.assertEqual(self.check(log, "odd", 7).spans("odd"), [(7, 7)])
        self.assertEqual(self.check(log, "odd", 8).spans("odd"), [])

    def test_pinned_again(self):
        log = free_log(2)
        told = pinned(log, "na", 5)
        self.assertEqual(self.check(told, "na", 5).spans("na"), [(5, 5)])
        self.assertEqual(self.check(told, "na", 6).spans("na"), [])
        both = self.check(told, "nb", 6)
        self.assertEqual((both.spans("na"), both.spans("nb")), ([(5, 5)], [(6, 6)]))

    def test_refused(self):
        log = a_log()
        before = told_by(log)
        for thing in ODD_THINGS + ["AT", "at ", "x", deep_list(), log.entry("at"), log, ["at"], 0]:
            refuses(self, NoEntry, "found", thing, pinned, log, thing, 5)
            refuses(self, NoEntry, "found", thing, pinned, log, thing, -1)
            refuses(self, NoEntry, "found", thing, pinned, log, thing, None)
        for thing in NO_MOMENTS:
            refuses(self, NoMoment, "found", thing, pinned, log, "at", thing)
        refuses(self, NoEntry, "found", "at", pinned, Log(), "at", 5)
        self.assertEqual(told_by(log), before)

    def test_the_two_have_nothing_in_common(self):
        log = a_log()
        before = told_by(log)
        told = pinned(log, "within", 20)
        wanted = told_by(told)
        told.unbind(0)
        told.put(Entry("more"))
        told.clock("even", log.table("fold"))
        told.drop("at")
        self.assertEqual(told_by(log), before)
        told = pinned(log, "within", 20)
        log.drop("read")
        log.put(At("late", 5))
        log.bind("late", "at", 0)
        self.assertEqual({**told_by(told), "entries": None}, {**wanted, "entries": None})
        self.assertEqual([told.spans(name) for name in told.names()], [spans for entry, spans in wanted["entries"]])


class WayAt(unittest.TestCase):
    def check(self, log, name, moment):
        before = told_by(log)
        told = way_at(log, name, moment)
        self.assertEqual(told_by(log), before)
        self.assertIs(type(told), dict)
        self.assertEqual(list(told), log.names())
        self.assertTrue(is_way(log, told))
        self.assertEqual(told[name], moment)
        self.assertEqual(told, earliest(pinned(log, name, moment))[0])
        return told

    def check_refused(self, log, name, moment):
        return check_no_way(self, log, pinned(log, name, moment), way_at, log, name, moment)

    def test_held_at_its_own_moments(self):
        log = a_log()
        self.assertEqual(self.check(log, "read", 20), {
            "any": 15, "within": 20, "at": 17, "between": 9, "read": 20, "joint": 16, "sifted": 1})
        self.assertEqual(self.check(log, "between", 16)["read"], 16)
        self.assertEqual(self.check(log, "any", LAST)["read"], 15)

    def test_none_of_its_own(self):
        log = a_log()
        self.assertEqual(self.check_refused(log, "read", 17), ("empty", "read"))
        self.assertEqual(self.check_refused(log, "at", 18), ("empty", "at"))
        self.assertEqual(self.check_refused(log, "sifted", 8), ("empty", "sifted"))

    def test_no_way(self):
        log = a_log()
        self.assertEqual(self.check_refused(log, "within", 19), ("past", [0]))
        self.assertEqual(self.check_refused(log, "between", 22), ("past", [2]))
        self.assertEqual(self.check_refused(log, "any", 9), ("past", [1]))

    def test_the_first_entry_without_moments_is_told(self):
        log = within([3, -1, 3], [])
        self.assertEqual(self.check_refused(log, "na", 9), ("empty", "na"))
        self.assertEqual(self.check_refused(log, "nc", 9), ("empty", "nb"))
        self.assertEqual(self.check_refused(log, "nc", 3), ("empty", "nb"))

    def test_a_log_with_a_ring(self):
        log = free_log(2, [(0, 1, 5), (1, 0, -4)])
        self.assertEqual(sorted(self.check_refused(log, "na", 5)[1]), [0, 1])

    def test_small_logs_gone_through_whole(self):
        told = {"way": 0, "empty": 0, "ring": 0, "past": 0}
        for turn, case in enumerate(small_cases(121, 250)):
            moments, bonds = case
            log = log_of(moments, bonds, turn)
            ways = all_ways(moments, bonds)
            for place, name in enumerate(log.names()):
                for moment in range(8):
                    held = [values for values in ways if values[place] == moment]
                    if held:
                        wanted = [min(numbers) for numbers in zip(*held)]
                        self.assertEqual(list(self.check(log, name, moment).values()), wanted)
                        told["way"] += 1
                    else:
                        told[self.check_refused(log, name, moment)[0]] += 1
        self.assertTrue(all(many > 100 for many in told.values()), told)

    def test_full_logs(self):
        for seed in (22, 23):
            log, way = full_log(seed)
            for name in log.names():
                found = self.check(log, name, way[name])
                self.assertTrue(all(found[other] <= way[other] for other in way))

    def test_refused(self):
        for log in (a_log(), free_log(1, [(0, 0, 1)])):
            before = told_by(log)
            for thing in ODD_THINGS + ["x", deep_list(), log]:
                refuses(self, NoEntry, "found", thing, way_at, log, thing, 5)
                refuses(self, NoEntry, "found", thing, way_at, log, thing, -1)
            for thing in NO_MOMENTS:
                refuses(self, NoMoment, "found", thing, way_at, log, log.names()[0], thing)
            self.assertEqual(told_by(log), before)

    def test_told_is_the_askers_own(self):
        log = free_log(2, [(0, 1, 3)])
        way_at(log, "nb", 4).clear()
        self.assertEqual(way_at(log, "nb", 4), {"na": 7, "nb": 4})
        log = within([3, 3], [(1, 0, 3)])
        no_way(self, way_at, log, "na", 1)[1].clear()
        self.assertEqual(no_way(self, way_at, log, "na", 1), ("past", [0]))


if __name__ == "__main__":
    unittest.main()
