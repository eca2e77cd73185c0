import random
import unittest

from foldlog.earliest import earliest, walked_up
from foldlog.entries import At, Entry, Read, Sifted, Within
from foldlog.errors import NoBond
from foldlog.frames import frame_of
from foldlog.logs import Log
from foldlog.tables import Table
from foldlog.ways import is_way
from framesets import each_raises, least_way, longest_chain, small_cases, trap, walk
from logsets import FOLD, LAST, a_log, free_log, log_of, told_by
from paperchecks import check_no_way
from refusals import ODD_THINGS, THIRTY, a_function, deep_list, no_way, refuses


class Earliest(unittest.TestCase):
    def check(self, log):
        # The way is one, its steps each raise and lead to it; the log stays.
        before = told_by(log)
        told = earliest(log)
        self.assertEqual(told_by(log), before)
        self.assertIs(type(told), tuple)
        way, steps = told
        self.assertEqual((type(way), type(steps)), (dict, list))
        self.assertEqual(list(way), log.names())
        self.assertTrue(is_way(log, way))
        frame = frame_of(log)
        self.assertEqual(walk(frame.spans(), frame.bonds(), steps), list(way.values()))
        self.assertTrue(each_raises(frame.spans(), frame.bonds(), steps))
        self.assertEqual(walked_up(log, steps), way)
        return way, steps

    def check_refused(self, log):
        return check_no_way(self, log, log, earliest, log)

    def test_without_entries(self):
        self.assertEqual(self.check(Log()), ({}, []))

    def test_without_bonds(self):
        self.assertEqual(self.check(free_log(2)), ({"na": 0, "nb": 0}, []))
        log = a_log()
        for number in range(5):
            log.unbind(0)
        way, steps = self.check(log)
        self.assertEqual(way, {"any": 0, "within": 3, "at": 17, "between": 9, "read": 15, "joint": 15, "sifted": 1})
        self.assertEqual(steps, [])

    def test_by_readings(self):
        log = Log()
        log.clock("fold", Table(FOLD))
        log.put(Read("z", "fold", 20))
        log.put(Read("a", "fold", 22))
        log.put(Within("m", 0, 30))
        log.bind("z", "a", 1)
        log.bind("m", "z", 5)
        self.assertEqual(self.check(log)[0], {"z": 20, "a": 18, "m": 25})
        log.bind("a", "z", -1)
        self.assertEqual(self.check_refused(log)[0], "past")
        log.clock("fold", Table([(0, 0)]))
        self.assertEqual(self.check_refused(log)[0], "past")
        log.unbind(0)
        self.assertEqual(self.check(log)[0], {"z": 20, "a": 22, "m": 25})

    def test_every_kind_of_entry(self):
        way, steps = self.check(a_log())
        self.assertEqual(way, {"any": 10, "within": 20, "at": 17, "between": 9, "read": 15, "joint": 16, "sifted": 1})

    def test_an_entry_with_itself(self):
        self.assertEqual(self.check(free_log(1, [(0, 0, 0), (0, 0, -5)])), ({"na": 0}, []))
        self.assertEqual(self.check_refused(free_log(1, [(0, 0, 1)])), ("ring", [0]))

    def test_minutes_below_and_above(self):
        self.assertEqual(self.check(free_log(2, [(0, 1, LAST)]))[0], {"na": LAST, "nb": 0})
        self.assertEqual(self.check_refused(free_log(2, [(0, 1, LAST + 1)])), ("past", [0]))
        self.assertEqual(self.check(free_log(2, [(0, 1, -2000000000)]))[0], {"na": 0, "nb": 0})
        log = Log()
        log.put(At("b", LAST))
        log.put(Entry("a"))
        log.bind("a", "b", -LAST)
        log.bind("a", "b", -7)
        self.assertEqual(self.check(log)[0], {"b": LAST, "a": LAST - 7})

    def test_minutes_together_0(self):
        self.assertEqual(self.check(free_log(3, [(1, 0, 7), (2, 1, -10), (0, 2, 3)]))[0], {"na": 3, "nb": 10, "nc": 0})
        log = log_of([[0, 2, 4, 7], [1, 3, 5, 7]], [(0, 1, 0), (1, 0, 0)])
        self.assertEqual(self.check(log)[0], {"na": 7, "nb": 7})

    def test_equal_bonds(self):
        way, steps = self.check(free_log(2, [(0, 1, 3), (0, 1, 3), (0, 1, 3)]))
        self.assertEqual((way, len(steps)), ({"na": 3, "nb": 0}, 1))

    def test_refused_with_each_kind_of_paper(self):
        log = log_of([[0, 1], [], [0, 1]], [(0, 0, 1)])
        self.assertEqual(self.check_refused(log), ("empty", "nb"))
        log = log_of([[0, 1], [2], [0, 1]], [(0, 0, 1), (0, 1, 0)])
        self.assertEqual(self.check_refused(log), ("ring", [0]))
        log.unbind(0)
        self.assertEqual(self.check_refused(log), ("past", [0]))

    def test_small_logs_gone_through_whole(self):
        ways = refused = 0
        for turn, case in enumerate(small_cases(81, 1500)):
            moments, bonds = case
            log = log_of(moments, bonds, turn)
            least = least_way(moments, bonds)
            if least is None:
                self.check_refused(log)
                refused += 1
            else:
                self.assertEqual(list(self.check(log)[0].values()), least)
                ways += 1
        self.assertGreater(min(ways, refused), 300)

    def test_few_steps_over_many_millions(self):
        bonds = [(entry + 1, entry, 16 * 10 ** 6) for entry in range(59)]
        for order in (bonds, list(reversed(bonds))):
            way, steps = self.check(free_log(60, order))
            self.assertEqual(list(way.values()), [16 * 10 ** 6 * entry for entry in range(60)])
            self.assertEqual(len(steps), 59)
        way, steps = self.check(free_log(57, trap(28)))
        self.assertLessEqual(len(steps), 84)
        self.assertLessEqual(longest_chain(trap(28), steps), 57)

    def test_many_tuples(self):
        log = Log()
        log.put(Sifted("even", Within("x", 0, 999), lambda moment: moment % 2 == 0 or moment > 990))
        log.put(Sifted("odd", Within("x", 0, 999), lambda moment: moment % 2 == 1))
        log.bind("even", "odd", 0)
        log.bind("odd", "even", 0)
        way, steps = self.check(log)
        self.assertEqual(way, {"even": 991, "odd": 991})
        self.assertEqual(len(steps), 991)

    def test_full_log(self):
        chance = random.Random(82)
        bonds = [(later, chance.randrange(later), chance.randint(-100, 100)) for later in range(1, 60)] + [(0, 0, 0)] * 41
        way, steps = self.check(free_log(60, bonds))
        self.assertLessEqual(len(steps), 59)

    def test_told_is_the_askers_own(self):
        log = free_log(2, [(0, 1, 3)])
        way, steps = earliest(log)
        way.clear()
        steps.append(7)
        self.assertEqual(earliest(log), ({"na": 3, "nb": 0}, [0]))

    def test_a_refusals_paper_is_the_askers_own(self):
        for log in (free_log(2, [(0, 1, 5), (1, 0, -4)]), free_log(2, [(0, 1, LAST + 1)])):
            paper = no_way(self, earliest, log)
            wanted = (paper[0], list(paper[1]))
            paper[1].clear()
            self.assertEqual(no_way(self, earliest, log), wanted)
            self.assertEqual(paper[1], [])

    def test_what_was_told_stays(self):
        log = free_log(2, [(0, 1, 3)])
        told = earliest(log)
        log.bind("nb", "nb", 0)
        log.bind("nb", "na", -1)
        log.drop("na")
        self.assertEqual(told, ({"na": 3, "nb": 0}, [0]))
        self.assertEqual(earliest(log), ({"nb": 0}, []))


class WalkedUp(unittest.TestCase):
    def test_without_steps(self):
        self.assertEqual(walked_up(Log(), []), {})
        told = walked_up(log_of([[3, 5], [], [0]], [(0, 0, 1)]), [])
        self.assertEqual(list(told.items()), [("na", 3), ("nb", None), ("nc", 0)])

    def test_any_steps(self):
        log = log_of([[0, 1, 2, 9], [0, 4], []], [(0, 1, 3), (0, 0, 1), (1, 0, -5), (2, 0, 1), (0, 2, 9)])
        for steps, wanted in (([0], [9, 0, None]), ([1], [1, 0, None]), ([1, 1, 1], [9, 0, None]), ([1] * 4, [None, 0, None]),
                              ([1, 1, 1, 2], [9, 4, None]), ([1] * 4 + [2], [None, 0, None]), ([2, 3, 4], [0, 0, None]),
                              ([1] * 3 + [2, 0], [9, 4, None]), ([1] * 4 + [2, 3, 1], [None, 0, None])):
            self.assertEqual(walked_up(log, steps), dict(zip(["na", "nb", "nc"], wanted)), steps)
        self.assertEqual(list(walked_up(log, [1])), ["na", "nb", "nc"])

    def test_by_hand(self):
        chance = random.Random(83)
        for turn, case in enumerate(small_cases(83, 300)):
            moments, bonds = case
            log = log_of(moments, bonds, turn)
            steps = [chance.randrange(len(bonds)) for place in range(chance.randint(0, 9))] if bonds else []
            wanted = list(steps)
            told = walked_up(log, steps)
            self.assertEqual(list(told), log.names())
            self.assertEqual(list(told.values()), walk(frame_of(log).spans(), bonds, steps))
            self.assertEqual(steps, wanted)

    def test_no_list(self):
        for log in (Log(), free_log(2, [(0, 1, 3)])):
            for thing in [thing for thing in ODD_THINGS if not isinstance(thing, list)] + [(0,), 0, {0: 0}, log]:
                refuses(self, NoBond, "found", thing, walked_up, log, thing)

    def test_first_thing_that_is_no_bonds_number(self):
        log = free_log(2, [(0, 1, 3), (1, 0, -3)])
        for thing in [thing for thing in ODD_THINGS if thing not in (0, 1) or isinstance(thing, bool)]:
            refuses(self, NoBond, "found", thing, walked_up, log, [thing])
        for thing in (2, -1, THIRTY, True, False, None, "0", [0], a_function, deep_list()):
            refuses(self, NoBond, "found", thing, walked_up, log, [0, 1, thing, 0])
            refuses(self, NoBond, "found", thing, walked_up, log, [0, 1, thing, 7, None])
        refuses(self, NoBond, "found", 0, walked_up, Log(), [0])
        refuses(self, NoBond, "found", 0, walked_up, free_log(2), [0])

    def test_refused_ahead_of_all_steps(self):
        # Also where the steps ahead leave an entry without a moment.
        log = free_log(1, [(0, 0, LAST)])
        refuses(self, NoBond, "found", 1, walked_up, log, [0, 0, 0, 1])

    def test_100000_steps(self):
        log = free_log(1, [(0, 0, 1)])
        self.assertEqual(walked_up(log, [0] * 100000), {"na": 100000})

    def test_log_stays_and_told_is_the_askers_own(self):
        log = free_log(2, [(0, 1, 3)])
        before = told_by(log)
        steps = [0, 0]
        walked_up(log, steps).clear()
        self.assertEqual((walked_up(log, steps), steps), ({"na": 3, "nb": 0}, [0, 0]))
        self.assertEqual(told_by(log), before)


if __name__ == "__main__":
    unittest.main()
