import random
import unittest

from foldlog.chances import all_chances, chances, fixed
from foldlog.entries import At, Entry, Read, Sifted, Within
from foldlog.errors import NoEntry, NoWay
from foldlog.lattice import room
from foldlog.logs import Log
from foldlog.pins import way_at
from foldlog.sifting import daily
from foldlog.spans import are_spans, both, has, less
from foldlog.tables import Table
from framesets import all_ways, small_cases
from logsets import FOLD, LAST, a_log, free_log, full_log, log_of, numbers_in, spans_by_hand, told_by, within, zigzag_log
from refusals import ODD_THINGS, deep_list, refuses


def has_way_at(log, name, moment):
    try:
        way_at(log, name, moment)
    except NoWay:
        return False
    return True


def same_moment(log, one, other):
    log.bind(one, other, 0)
    log.bind(other, one, 0)


class Chances(unittest.TestCase):
    def check(self, log):
        # The three tell the same; the log stays. Told are all chances.
        before = told_by(log)
        told = all_chances(log)
        self.assertIs(type(told), dict)
        self.assertEqual(list(told), log.names())
        for name in told:
            self.assertTrue(are_spans(told[name]))
            self.assertEqual(chances(log, name), told[name])
            self.assertEqual(less(told[name], log.spans(name)), [])
        ones = [name for name in told if len(told[name]) == 1 and told[name][0][0] == told[name][0][1]]
        self.assertEqual(fixed(log), ones)
        self.assertEqual(told_by(log), before)
        return told

    def test_without_entries(self):
        self.assertEqual(self.check(Log()), {})

    def test_without_bonds(self):
        log = a_log()
        for number in range(5):
            log.unbind(0)
        self.assertEqual(self.check(log), {name: log.spans(name) for name in log.names()})

    def test_every_kind_of_entry(self):
        self.assertEqual(self.check(a_log()), {
            "any": [(10, LAST)], "within": [(20, 40)], "at": [(17, 17)], "between": [(9, 18), (20, 20)],
            "read": [(15, 16), (20, 20)], "joint": [(16, 16), (20, 20)], "sifted": [(number, number) for number in range(1, 100, 2)]})

    def test_many_millions_of_moments(self):
        log = free_log(3, [(1, 0, 10 ** 8), (2, 1, 10 ** 8), (0, 2, -7 * 10 ** 8)])
        self.assertEqual(self.check(log), {
            "na": [(0, 8 * 10 ** 8)], "nb": [(10 ** 8, 9 * 10 ** 8)], "nc": [(2 * 10 ** 8, LAST)]})

    def test_millions_of_moments_with_gaps(self):
        # Two that were at one moment, of a clock that was put forward and back.
        log = Log()
        log.clock("far", Table([(0, 0), (10 ** 8, 2880), (5 * 10 ** 8, -2880), (9 * 10 ** 8, 0)]))
        log.put(Entry("any"))
        log.put(Within("wide", 3, 999999990))
        same_moment(log, "any", "wide")
        self.assertEqual(self.check(log)["any"], [(3, 999999990)])
        log.put(Read("twice", "far", 5 * 10 ** 8))
        log.put(Entry("near"))
        log.bind("near", "twice", -10)
        log.bind("twice", "near", 0)
        log.bind("wide", "near", 10 ** 8)
        self.assertEqual(self.check(log), {
            "any": [(600000000 - 2890, 999999990)], "wide": [(600000000 - 2890, 999999990)],
            "twice": [(500000000 - 2880, 500000000 - 2880), (500002880, 500002880)],
            "near": [(500000000 - 2890, 500000000 - 2880), (500002870, 500002880)]})

    def test_gaps_of_another_entry(self):
        log = Log()
        log.clock("fold", Table(FOLD))
        log.put(Entry("any"))
        log.put(Read("read", "fold", 20))
        same_moment(log, "any", "read")
        self.assertEqual(self.check(log), {"any": [(15, 16), (20, 20)], "read": [(15, 16), (20, 20)]})
        log.put(Entry("more"))
        log.bind("more", "any", 5)
        log.bind("any", "more", -6)
        self.assertEqual(self.check(log)["more"], [(20, 22), (25, 26)])

    def test_one_moment(self):
        log = free_log(2, [(0, 1, LAST)])
        self.assertEqual(self.check(log), {"na": [(LAST, LAST)], "nb": [(0, 0)]})
        self.assertEqual(fixed(log), ["na", "nb"])
        log = Log()
        for entry in (Entry("z"), At("m", 7), Within("a", 7, 9)):
            log.put(entry)
        log.bind("m", "a", 0)
        self.check(log)
        self.assertEqual(fixed(log), ["m", "a"])

    def test_two_moments_are_not_fixed(self):
        log = log_of([[3, 4], [3, 5], [2, 9]], [(0, 1, 0)])
        self.assertEqual(self.check(log), {"na": [(3, 4)], "nb": [(3, 3)], "nc": [(2, 2), (9, 9)]})
        self.assertEqual(fixed(log), ["nb"])

    def test_without_a_way(self):
        for log in (free_log(2, [(0, 0, 1)]), within([3, -1], []), within([3, 3, 3], [(1, 0, 4)]), zigzag_log()):
            self.assertEqual(self.check(log), {name: [] for name in log.names()})
            self.assertEqual(fixed(log), [])

    def test_refused(self):
        for log in (Log(), a_log(), free_log(1, [(0, 0, 1)]), within([-1], [])):
            before = told_by(log)
            for thing in ODD_THINGS + ["x", "AT", deep_list(), log, 0]:
                refuses(self, NoEntry, "found", thing, chances, log, thing)
            self.assertEqual(told_by(log), before)

    def test_small_logs_gone_through_whole(self):
        told = {"none": 0, "all": 0, "some": 0}
        for turn, case in enumerate(small_cases(131, 1200, 0, 9)):
            moments, bonds = case
            log = log_of(moments, bonds, turn)
            ways = all_ways(moments, bonds)
            found = self.check(log)
            for place, name in enumerate(log.names()):
                wanted = spans_by_hand({values[place] for values in ways})
                self.assertEqual(found[name], wanted, case)
                told["none" if not wanted else "all" if wanted == log.spans(name) else "some"] += 1
        self.assertTrue(all(many > 300 for many in told.values()), told)

    def test_holes_that_rings_make(self):
        # Rings whose minutes together are just 0 or little below make most holes.
        chance = random.Random(132)
        holes = 0
        for turn in range(300):
            many = chance.randint(2, 4)
            moments = [sorted(chance.sample(range(12), chance.randint(5, 9))) for entry in range(many)]
            bonds = [(entry, (entry + 1) % many, chance.choice([0, 0, 0, -1, 1, -2])) for entry in range(many)]
            log = log_of(moments, bonds, turn)
            found = self.check(log)
            ways = all_ways(moments, bonds)
            for place, name in enumerate(log.names()):
                self.assertEqual(found[name], spans_by_hand({values[place] for values in ways}))
                if ways:
                    ends = room(log)[name]
                    holes += found[name] != both(log.spans(name), [ends])
        self.assertGreater(holes, 30)

    def test_full_logs(self):
        chance = random.Random(133)
        for seed in range(30, 34):
            log, way = full_log(seed)
            told = self.check(log)
            ends = room(log)
            for name in told:
                self.assertTrue(has(told[name], way[name]))
                self.assertEqual((told[name][0][0], told[name][-1][1]), ends[name])
                near = [told[name][0][0] - 1, told[name][-1][1] + 1, chance.randint(*ends[name])]
                for low, high in chance.sample(told[name], min(len(told[name]), 3)):
                    near += [low - 1, low, high, high + 1]
                for moment in [moment for moment in near if 0 <= moment <= LAST]:
                    self.assertIs(has_way_at(log, name, moment), has(told[name], moment))

    def test_many_gaps_on_a_ring(self):
        log = Log()
        names = ["a", "b", "c", "d", "e"]
        for name, beat in zip(names, (1, 2, 3, 5, 7)):
            log.put(Sifted(name, Within("x", 0, 999), (lambda beat: lambda moment: moment % beat == 0)(beat)))
        for one, other in zip(names, names[1:] + names[:1]):
            log.bind(one, other, 0)
        wanted = [(moment, moment) for moment in range(0, 1000, 210)]
        self.assertEqual(self.check(log), {name: wanted for name in names})
        log.unbind(4)
        log.bind("e", "a", -1)
        self.check(log)

    def test_of_days(self):
        log = Log()
        log.put(Sifted("noon", Within("x", 1400, 2399), daily(700, 720)))
        log.put(Sifted("night", Within("x", 1400, 2399), daily(1430, 10)))
        log.bind("noon", "night", 720)
        self.assertEqual(self.check(log), {"noon": [(2150, 2160)], "night": [(1430, 1440)]})

    def test_a_bond_more_gives_no_chance_and_one_less_takes_none(self):
        chance = random.Random(134)
        fewer = 0
        for turn, case in enumerate(small_cases(134, 300)):
            log = log_of(case[0], case[1], turn)
            first = all_chances(log)
            log.bind(chance.choice(log.names()), chance.choice(log.names()), chance.randint(-3, 3))
            then = all_chances(log)
            self.assertTrue(all(less(then[name], first[name]) == [] for name in first))
            fewer += then != first
            log.unbind(len(log.bonds()) - 1)
            self.assertEqual(all_chances(log), first)
        self.assertGreater(fewer, 50)

    def test_told_is_the_askers_own(self):
        log = free_log(2, [(0, 1, LAST - 5)])
        for turn in range(2):
            told = all_chances(log)
            self.assertEqual(told, {"na": [(LAST - 5, LAST)], "nb": [(0, 5)]})
            told["na"].clear()
            told["nb"].append((9, 9))
            told.clear()
            self.assertEqual(chances(log, "na"), [(LAST - 5, LAST)])
            chances(log, "na").clear()
            self.assertEqual(fixed(log), [])
            fixed(log).append("na")
        log = free_log(2, [(0, 0, 1)])
        told = all_chances(log)
        told["na"].append((1, 1))
        self.assertEqual((told["nb"], all_chances(log)), ([], {"na": [], "nb": []}))

    def test_what_was_told_stays(self):
        log = log_of([range(10), range(10)], [(0, 1, 5)])
        told = all_chances(log)
        log.bind("nb", "na", -5)
        log.drop("na")
        self.assertEqual(told, {"na": [(5, 9)], "nb": [(0, 4)]})
        self.assertEqual(all_chances(log), {"nb": [(0, 9)]})

    def test_agrees_with_each_moment_held(self):
        for turn, case in enumerate(small_cases(135, 60)):
            log = log_of(case[0], case[1], turn)
            for name in log.names():
                held = [moment for moment in range(9) if has_way_at(log, name, moment)]
                self.assertEqual(numbers_in(chances(log, name)), held)


if __name__ == "__main__":
    unittest.main()
