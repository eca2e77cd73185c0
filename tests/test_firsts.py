import itertools
import random
import unittest

from foldlog.earliest import earliest
from foldlog.entries import Entry, Read, Sifted, Within
from foldlog.errors import NoEntry
from foldlog.firsts import first_pairs, least_gap, other_order, surely_first
from foldlog.frames import frame_of
from foldlog.logs import Log
from foldlog.papers import paper_of
from foldlog.tables import Table
from foldlog.ways import is_way
from framesets import all_ways, is_told_paper, small_cases
from logsets import FOLD, LAST, a_log, free_log, full_log, log_of, name_of, told_by, within
from paperchecks import check_no_way
from refusals import ODD_THINGS, deep_list, no_way, refuses


def without_way():
    return [free_log(3, [(0, 0, 1)]), within([3, -1, 3], []), within([3, 3, 3], [(1, 0, 4)])]


def row_of(many, bonds):
    # A log of a hundred bonds, the last of them again and again.
    return free_log(many, bonds + [bonds[-1]] * (100 - len(bonds)))


class OtherOrder(unittest.TestCase):
    def check(self, log, one, other):
        before = told_by(log)
        told = other_order(log, one, other)
        self.assertEqual(told_by(log), before)
        self.assertIs(type(told), dict)
        self.assertEqual(list(told), log.names())
        self.assertTrue(is_way(log, told))
        self.assertGreaterEqual(told[one], told[other])
        self.assertIs(surely_first(log, one, other), False)
        return told

    def check_refused(self, log, one, other):
        # The paper is gone through with the bond that is thought put behind.
        before = told_by(log)
        paper = no_way(self, other_order, log, one, other)
        self.assertEqual(told_by(log), before)
        names = log.names()
        bonds = frame_of(log).bonds() + [(names.index(one), names.index(other), 0)]
        self.assertTrue(is_told_paper(names, [log.spans(name) for name in names], bonds, paper), paper)
        self.assertIs(surely_first(log, one, other), True)
        return paper

    def test_ordinary(self):
        log = within([9, 9], [(1, 0, 3)])
        self.assertEqual(self.check(log, "nb", "na"), {"na": 0, "nb": 3})
        self.assertEqual(self.check_refused(log, "na", "nb")[0], "ring")
        log = log_of([range(0, 5), range(4, 9)], [])
        self.assertEqual(self.check(log, "na", "nb"), {"na": 4, "nb": 4})
        self.assertEqual(self.check(log, "nb", "na"), {"na": 0, "nb": 4})
        log = log_of([range(0, 4), range(4, 9)], [])
        self.assertEqual(self.check_refused(log, "na", "nb"), ("past", [0]))

    def test_at_the_same_moment_none_is_first(self):
        log = free_log(2, [(0, 1, 0), (1, 0, 0)])
        self.check(log, "na", "nb")
        self.check(log, "nb", "na")

    def test_a_name_and_itself(self):
        log = a_log()
        for name in log.names():
            self.assertEqual(self.check(log, name, name), earliest(log)[0])

    def test_a_log_without_a_way(self):
        for log in without_way():
            for one, other in itertools.product(log.names(), repeat=2):
                self.check_refused(log, one, other)

    def test_a_hundred_bonds_and_one(self):
        log = row_of(3, [(1, 0, 5), (2, 1, -3)])
        self.assertEqual(len(log.bonds()), 100)
        kind, numbers = self.check_refused(log, "na", "nb")
        self.assertEqual((kind, sorted(numbers)), ("ring", [0, 100]))
        self.assertEqual(self.check(log, "nb", "nc"), {"na": 0, "nb": 5, "nc": 2})
        log = within([3, 9], [(0, 0, 0)] * 100)
        log.drop("nb")
        log.put(Within("nb", 5, 9))
        self.assertEqual(self.check_refused(log, "na", "nb"), ("past", [100]))
        self.assertEqual(len(log.bonds()), 100)

    def test_number_behind_the_bonds_of_the_log(self):
        log = log_of([range(4), range(4), range(5, 9)], [(0, 1, 1), (1, 0, -2)])
        self.assertEqual(self.check_refused(log, "nb", "nc"), ("past", [2]))

    def test_small_logs_gone_through_whole(self):
        kinds = {"way": 0, "empty": 0, "ring": 0, "past": 0}
        for turn, case in enumerate(small_cases(151, 400)):
            moments, bonds = case
            log = log_of(moments, bonds, turn)
            ways = all_ways(moments, bonds)
            names = log.names()
            for one, other in itertools.product(range(len(names)), repeat=2):
                left = [values for values in ways if values[one] >= values[other]]
                if left:
                    wanted = [min(numbers) for numbers in zip(*left)]
                    self.assertEqual(list(self.check(log, names[one], names[other]).values()), wanted)
                    kinds["way"] += 1
                else:
                    kinds[self.check_refused(log, names[one], names[other])[0]] += 1
        self.assertTrue(all(many > 100 for many in kinds.values()), kinds)

    def test_refused_names(self):
        for log in [Log(), a_log()] + without_way():
            before = told_by(log)
            for call in (other_order, surely_first, least_gap):
                for thing in ODD_THINGS + ["x", "AT", deep_list(), log, 0]:
                    refuses(self, NoEntry, "found", thing, call, log, thing, thing)
                    refuses(self, NoEntry, "found", thing, call, log, thing, "other")
                    for name in log.names()[:1]:
                        refuses(self, NoEntry, "found", thing, call, log, thing, name)
                        refuses(self, NoEntry, "found", thing, call, log, name, thing)
            self.assertEqual(told_by(log), before)

    def test_told_is_the_askers_own(self):
        log = within([9, 9], [(1, 0, 3)])
        other_order(log, "nb", "na").clear()
        self.assertEqual(other_order(log, "nb", "na"), {"na": 0, "nb": 3})
        paper = no_way(self, other_order, log, "na", "nb")
        wanted = (paper[0], list(paper[1]))
        paper[1].clear()
        self.assertEqual(no_way(self, other_order, log, "na", "nb"), wanted)


class Pairs(unittest.TestCase):
    def check(self, log):
        before = told_by(log)
        told = first_pairs(log)
        self.assertEqual(told_by(log), before)
        names = log.names()
        wanted = [(one, other) for one in names for other in names if one != other and surely_first(log, one, other)]
        self.assertEqual(told, wanted)
        self.assertTrue(all(type(pair) is tuple for pair in told))
        return told

    def test_ordinary(self):
        self.assertEqual(self.check(Log()), [])
        self.assertEqual(self.check(free_log(1)), [])
        self.assertEqual(self.check(free_log(3)), [])
        self.assertEqual(self.check(free_log(3, [(1, 0, 1), (0, 2, 1)])), [("na", "nb"), ("nc", "na"), ("nc", "nb")])
        self.assertEqual(self.check(free_log(3, [(1, 0, 1), (0, 2, 0)])), [("na", "nb"), ("nc", "nb")])

    def test_order_of_the_log(self):
        log = Log()
        for name in ("z", "m", "a"):
            log.put(Entry(name))
        log.bind("a", "m", 1)
        log.bind("m", "z", 1)
        self.assertEqual(self.check(log), [("z", "m"), ("z", "a"), ("m", "a")])

    def test_by_readings(self):
        log = Log()
        log.clock("fold", Table(FOLD))
        log.put(Read("a", "fold", 20))
        log.put(Read("b", "fold", 22))
        log.put(Within("c", 17, 19))
        self.assertEqual(self.check(log), [])
        log.bind("c", "a", 2)
        self.assertEqual(self.check(log), [("a", "b"), ("a", "c")])

    def test_first_only_by_gaps(self):
        # The bond alone leaves them free to change places.
        log = log_of([[0, 1, 2, 10, 11], [3, 4, 12, 13]], [(1, 0, -3)])
        self.assertEqual(self.check(log), [("na", "nb")])
        log = log_of([[0, 1, 2, 10, 11], [3, 4, 9, 13]], [(1, 0, -3)])
        self.assertEqual(self.check(log), [])

    def test_without_a_way(self):
        for log in without_way():
            self.assertEqual(self.check(log), list(itertools.permutations(log.names(), 2)))

    def test_small_logs(self):
        told = 0
        for turn, case in enumerate(small_cases(152, 400)):
            told += 0 < len(self.check(log_of(case[0], case[1], turn)))
        self.assertGreater(told, 100)

    def test_full_log(self):
        log, way = full_log(41)
        told = first_pairs(log)
        self.assertGreater(len(told), 0)
        self.assertTrue(all(way[one] < way[other] for one, other in told))
        places = {name: place for place, name in enumerate(log.names())}
        self.assertEqual(told, sorted(told, key=lambda pair: (places[pair[0]], places[pair[1]])))
        for one, other in random.Random(41).sample(list(itertools.permutations(log.names(), 2)), 300):
            self.assertIs(surely_first(log, one, other), (one, other) in told)

    def test_told_is_the_askers_own(self):
        log = free_log(2, [(1, 0, 1)])
        first_pairs(log).clear()
        self.assertEqual(first_pairs(log), [("na", "nb")])


class LeastGap(unittest.TestCase):
    def check(self, log, one, other):
        before = told_by(log)
        told = least_gap(log, one, other)
        self.assertEqual(told_by(log), before)
        self.assertIs(type(told), tuple)
        gap, way = told
        self.assertIs(type(gap), int)
        self.assertTrue(is_way(log, way))
        self.assertEqual(list(way), log.names())
        self.assertEqual(way[other] - way[one], gap)
        self.assertIs(surely_first(log, one, other), gap >= 1)
        return gap

    def test_ordinary(self):
        log = within([9, 9], [(1, 0, 3)])
        self.assertEqual((self.check(log, "na", "nb"), self.check(log, "nb", "na")), (3, -9))
        log = free_log(2)
        self.assertEqual((self.check(log, "na", "nb"), self.check(log, "nb", "na")), (-LAST, -LAST))
        log = free_log(2, [(1, 0, LAST)])
        self.assertEqual((self.check(log, "na", "nb"), self.check(log, "nb", "na")), (LAST, -LAST))
        log = free_log(2, [(1, 0, 5), (0, 1, -8)])
        self.assertEqual((self.check(log, "na", "nb"), self.check(log, "nb", "na")), (5, -8))

    def test_below_nought(self):
        log = free_log(2, [(1, 0, -5)])
        self.assertEqual((self.check(log, "na", "nb"), self.check(log, "nb", "na")), (-5, -LAST))

    def test_a_name_and_itself(self):
        log = a_log()
        for name in log.names():
            self.assertEqual(self.check(log, name, name), 0)

    def test_in_the_middle(self):
        # Neither in the earliest nor in the latest way is the gap the least.
        log = log_of([[0, 10, 20], [5, 12, 30]], [(1, 0, 0)])
        self.assertEqual(self.check(log, "na", "nb"), 2)

    def test_by_gaps(self):
        log = Log()
        log.put(Sifted("even", Within("x", 0, 999), lambda moment: moment % 2 == 0))
        log.put(Sifted("odd", Within("x", 0, 999), lambda moment: moment % 2 == 1))
        log.bind("odd", "even", 0)
        self.assertEqual((self.check(log, "even", "odd"), self.check(log, "odd", "even")), (1, -999))

    def test_small_logs_gone_through_whole(self):
        tried = 0
        for turn, case in enumerate(small_cases(153, 600, 0, 9)):
            moments, bonds = case
            log = log_of(moments, bonds, turn)
            ways = all_ways(moments, bonds)
            names = log.names()
            for one, other in itertools.product(range(len(names)), repeat=2):
                if ways:
                    wanted = min(values[other] - values[one] for values in ways)
                    self.assertEqual(self.check(log, names[one], names[other]), wanted)
                    tried += 1
                else:
                    check_no_way(self, log, log, least_gap, log, names[one], names[other])
        self.assertGreater(tried, 1000)

    def test_full_log(self):
        log, way = full_log(42)
        for number in range(0, 100, 7):
            later, earlier, minutes = log.bonds()[number]
            gap = self.check(log, earlier, later)
            self.assertTrue(minutes <= gap <= way[later] - way[earlier])

    def test_a_hundred_bonds(self):
        log = row_of(60, [(entry + 1, entry, 10 ** 7) for entry in range(59)])
        self.assertEqual(self.check(log, name_of(0), name_of(59)), 59 * 10 ** 7)
        self.assertEqual(self.check(log, name_of(59), name_of(0)), -LAST)

    def test_without_a_way(self):
        for log in without_way():
            self.assertEqual(check_no_way(self, log, log, least_gap, log, "na", "nb"), paper_of(log))
            self.assertEqual(check_no_way(self, log, log, least_gap, log, "na", "na"), paper_of(log))

    def test_told_is_the_askers_own(self):
        log = free_log(2, [(1, 0, 5), (0, 1, -5)])
        least_gap(log, "na", "nb")[1].clear()
        self.assertEqual(self.check(log, "na", "nb"), 5)
        log = free_log(2, [(1, 0, 5), (0, 1, -4)])
        no_way(self, least_gap, log, "na", "nb")[1].clear()
        self.assertEqual(sorted(no_way(self, least_gap, log, "na", "nb")[1]), [0, 1])


if __name__ == "__main__":
    unittest.main()
