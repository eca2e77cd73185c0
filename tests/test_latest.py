import random
import unittest

from foldlog.earliest import earliest
from foldlog.entries import At, Entry, Read, Sifted, Within
from foldlog.errors import NoBond
from foldlog.frames import Frame, frame_of
from foldlog.latest import latest, mirrored, walked_down
from foldlog.logs import Log
from foldlog.papers import paper_of
from foldlog.tables import Table
from foldlog.ways import is_way
from framesets import all_ways, frame_by, small_cases, trap
from logsets import FOLD, LAST, a_log, free_log, full_log, log_of, numbers_in, told_by, within, zigzag_log
from paperchecks import check_no_way
from refusals import ODD_THINGS, THIRTY, a_function, deep_list, no_way, refuses

MOST = 10 ** 15 - 1


def last_before(spans, number):
    # The last moment that is not above the number, span by span.
    found = None
    for low, high in spans:
        if low <= number:
            found = min(high, number)
    return found


def step_down(spans, highs, bond):
    later, earlier, minutes = bond
    if highs[later] is None or highs[earlier] is None or highs[earlier] <= highs[later] - minutes:
        return highs
    return {**highs, earlier: last_before(spans[earlier], highs[later] - minutes)}


def walk_down(log, steps):
    # Where the entries stand behind each step, the last moments first.
    spans = {name: log.spans(name) for name in log.names()}
    told = [{name: spans[name][-1][1] if spans[name] else None for name in spans}]
    for number in steps:
        told.append(step_down(spans, told[-1], log.bonds()[number]))
    return told


class Mirrored(unittest.TestCase):
    def check(self, spans, bonds, other_spans, other_bonds):
        frame = Frame(spans, bonds)
        told = mirrored(frame)
        self.assertIs(type(told), Frame)
        self.assertEqual((told.spans(), told.bonds()), (other_spans, other_bonds))
        again = mirrored(told)
        self.assertEqual((again.spans(), again.bonds()), (spans, bonds))
        self.assertEqual((frame.spans(), frame.bonds()), (spans, bonds))

    def test_nothing(self):
        self.check([], [], [], [])

    def test_spans(self):
        self.check([[]], [], [[]], [])
        self.check([[(5, 5)]], [], [[(-5, -5)]], [])
        self.check([[(0, 0)]], [], [[(0, 0)]], [])
        self.check([[(1, 3), (5, 5), (7, 20)]], [], [[(-20, -7), (-5, -5), (-3, -1)]], [])
        self.check([[(-9, -3), (0, 5)], [(-1, 2)]], [], [[(-5, 0), (3, 9)], [(-2, 1)]], [])
        self.check([[(-MOST, -MOST), (0, MOST)]], [], [[(-MOST, 0), (MOST, MOST)]], [])

    def test_bonds_keep_their_numbers(self):
        spans, turned = [[(0, 1)], [(2, 3)], []], [[(-1, 0)], [(-3, -2)], []]
        bonds = [(0, 1, 5), (2, 0, -7), (1, 1, 0), (0, 1, 5), (2, 2, MOST), (1, 0, -MOST)]
        self.check(spans, bonds, turned, [(1, 0, 5), (0, 2, -7), (1, 1, 0), (1, 0, 5), (2, 2, MOST), (0, 1, -MOST)])

    def test_full(self):
        spans = [[(entry - 30, entry)] for entry in range(60)]
        bonds = [(number % 60, (7 * number) % 60, number - 50) for number in range(101)]
        self.check(spans, bonds, [[(-entry, 30 - entry)] for entry in range(60)],
                   [(earlier, later, minutes) for later, earlier, minutes in bonds])

    def test_bonds_are_kept_by_opposites(self):
        for moments, bonds in small_cases(91, 200, -3, 4):
            told = mirrored(frame_by(moments, bonds))
            values = [numbers[0] if numbers else 1 for numbers in moments]
            for bond, other in zip(bonds, told.bonds()):
                kept = values[bond[0]] >= values[bond[1]] + bond[2]
                self.assertEqual(kept, -values[other[0]] >= -values[other[1]] + other[2])

    def test_the_two_have_nothing_in_common(self):
        frame = Frame([[(0, 5)], [(7, 7)]], [(0, 1, 5)])
        told = mirrored(frame)
        told.spans()[0].clear()
        told.bonds().clear()
        frame.spans().clear()
        self.assertEqual((told.spans(), told.bonds()), ([[(-5, 0)], [(-7, -7)]], [(1, 0, 5)]))
        self.assertEqual((mirrored(frame).spans(), mirrored(frame).bonds()), (told.spans(), told.bonds()))

    def test_of_a_log(self):
        log = a_log()
        told = mirrored(frame_of(log))
        log.drop("any")
        self.assertEqual(told.bonds(), [(2, 1, 3), (4, 0, -5), (3, 4, 0), (2, 5, -1), (0, 0, 0)])
        self.assertEqual(told.spans()[:3], [[(-LAST, 0)], [(-40, -3)], [(-17, -17)]])


class WalkedDown(unittest.TestCase):
    def test_without_steps(self):
        self.assertEqual(walked_down(Log(), []), {})
        told = walked_down(log_of([[3, 5], [], [0]], [(0, 0, 1)]), [])
        self.assertEqual(list(told.items()), [("na", 5), ("nb", None), ("nc", 0)])

    def test_any_steps(self):
        # Down from 9, 4 and nothing.
        log = log_of([[0, 7, 8, 9], [0, 4], []], [(1, 0, -4), (0, 0, 1), (0, 1, 5), (2, 0, 1), (0, 2, 9), (1, 0, 5), (0, 1, 6)])
        for steps, wanted in (([0], [8, 4, None]), ([0, 0], [8, 4, None]), ([1], [8, 4, None]), ([1, 1, 1], [0, 4, None]),
                              ([1] * 4, [None, 4, None]), ([2], [9, 4, None]), ([1, 2], [8, 0, None]), ([1] * 3 + [2], [0, None, None]),
                              ([1] * 4 + [2], [None, 4, None]), ([1] * 4 + [2, 6, 1, 0], [None, 4, None]), ([3, 4], [9, 4, None]),
                              ([5], [None, 4, None]), ([5, 6, 2], [None, 4, None]), ([6], [9, 0, None]), ([6, 0], [0, 0, None]),
                              ([6, 5], [None, 0, None]), ([6, 0, 2], [0, None, None])):
            self.assertEqual(walked_down(log, steps), dict(zip(["na", "nb", "nc"], wanted)), steps)
        self.assertEqual(list(walked_down(log, [1])), ["na", "nb", "nc"])

    def test_an_entry_with_itself(self):
        for minutes in (0, -1, -2000000000):
            self.assertEqual(walked_down(free_log(1, [(0, 0, minutes)]), [0, 0, 0]), {"na": LAST})
        log = free_log(1, [(0, 0, 3)])
        self.assertEqual(walked_down(log, [0]), {"na": LAST - 3})
        self.assertEqual(walked_down(log, [0, 0, 0]), {"na": LAST - 9})
        log = log_of([[1, 2, 7, 8]], [(0, 0, 2)])
        self.assertEqual([walked_down(log, [0] * many)["na"] for many in range(5)], [8, 2, None, None, None])

    def test_minutes_of_nought_below_and_above(self):
        log = log_of([range(0, 10), range(5, 20)], [(0, 1, 0), (0, 1, -3), (0, 1, 4), (0, 1, 5)])
        self.assertEqual([walked_down(log, [number])["nb"] for number in range(4)], [9, 12, 5, None])
        self.assertEqual([walked_down(log, [number])["na"] for number in range(4)], [9, 9, 9, 9])

    def test_by_hand(self):
        chance = random.Random(92)
        gone = 0
        for turn, case in enumerate(small_cases(92, 400)):
            moments, bonds = case
            log = log_of(moments, bonds, turn)
            steps = [chance.randrange(len(bonds)) for place in range(chance.randint(0, 9))] if bonds else []
            wanted = list(steps)
            told = walked_down(log, steps)
            self.assertEqual(list(told), log.names())
            self.assertEqual(told, walk_down(log, steps)[-1])
            self.assertEqual(steps, wanted)
            gone += None in told.values() and all(moments)
        self.assertGreater(gone, 50)

    def test_with_a_way_or_without(self):
        for log in (free_log(1, [(0, 0, 1)]), within([3, 3], [(1, 0, 4)]), within([-1, 3], [(0, 1, 0), (1, 1, 1)])):
            self.assertIsNotNone(paper_of(log))
            steps = [0, 0] + [len(log.bonds()) - 1]
            self.assertEqual(walked_down(log, steps), walk_down(log, steps)[-1])

    def test_no_list(self):
        for log in (Log(), free_log(2, [(0, 1, 3)])):
            for thing in [thing for thing in ODD_THINGS if not isinstance(thing, list)] + [(0,), 0, {0: 0}, log]:
                refuses(self, NoBond, "found", thing, walked_down, log, thing)

    def test_first_thing_that_is_no_bonds_number(self):
        log = free_log(2, [(0, 1, 3), (1, 0, -3)])
        for thing in (2, -1, THIRTY, -THIRTY, True, False, None, "0", [0], (0,), {}, a_function, deep_list(), log):
            refuses(self, NoBond, "found", thing, walked_down, log, [thing])
            refuses(self, NoBond, "found", thing, walked_down, log, [0, 1, thing, 7, None])
        refuses(self, NoBond, "found", 0, walked_down, Log(), [0])
        refuses(self, NoBond, "found", 0, walked_down, free_log(2), [0])
        # Also behind a step that leaves an entry without a moment.
        refuses(self, NoBond, "found", 1, walked_down, free_log(1, [(0, 0, LAST)]), [0, 0, 0, 1])

    def test_100000_steps(self):
        self.assertEqual(walked_down(free_log(1, [(0, 0, 1)]), [0] * 100000), {"na": LAST - 100000})

    def test_log_stays_and_told_is_the_askers_own(self):
        log = free_log(2, [(0, 1, 3)])
        before = told_by(log)
        steps = [0, 0]
        walked_down(log, steps).clear()
        self.assertEqual((walked_down(log, steps), steps), ({"na": LAST, "nb": LAST - 3}, [0, 0]))
        self.assertEqual(told_by(log), before)


class Latest(unittest.TestCase):
    def check(self, log):
        # The way is one, its steps each lower and lead to it; the log stays.
        before = told_by(log)
        told = latest(log)
        self.assertEqual(told_by(log), before)
        self.assertIs(type(told), tuple)
        way, steps = told
        self.assertEqual((type(way), type(steps)), (dict, list))
        self.assertEqual(list(way), log.names())
        self.assertTrue(is_way(log, way))
        walk = walk_down(log, steps)
        self.assertEqual(walk[-1], way)
        self.assertTrue(all(one != other for one, other in zip(walk, walk[1:])))
        self.assertEqual(walked_down(log, steps), way)
        first = earliest(log)[0]
        self.assertTrue(all(first[name] <= way[name] for name in way))
        return way, steps

    def check_refused(self, log):
        return check_no_way(self, log, log, latest, log)

    def test_without_entries(self):
        self.assertEqual(self.check(Log()), ({}, []))

    def test_without_bonds(self):
        self.assertEqual(self.check(free_log(2)), ({"na": LAST, "nb": LAST}, []))
        log = a_log()
        for number in range(5):
            log.unbind(0)
        way, steps = self.check(log)
        self.assertEqual(way, {"any": LAST, "within": 40, "at": 17, "between": 22, "read": 20, "joint": 20, "sifted": 99})
        self.assertEqual(steps, [])

    def test_every_kind_of_entry(self):
        way, steps = self.check(a_log())
        self.assertEqual(way, {"any": LAST, "within": 40, "at": 17, "between": 20, "read": 20, "joint": 20, "sifted": 99})

    def test_by_readings(self):
        log = Log()
        log.clock("fold", Table(FOLD))
        log.put(Read("z", "fold", 20))
        log.put(Read("a", "fold", 22))
        log.put(Within("m", 0, 30))
        log.bind("a", "z", 1)
        log.bind("m", "z", 12)
        self.assertEqual(self.check(log)[0], {"z": 16, "a": 22, "m": 30})
        log.bind("z", "a", -5)
        self.assertEqual(self.check(log)[0], {"z": 16, "a": 18, "m": 30})

    def test_an_entry_with_itself(self):
        self.assertEqual(self.check(free_log(1, [(0, 0, 0), (0, 0, -5)])), ({"na": LAST}, []))
        self.assertEqual(self.check_refused(free_log(1, [(0, 0, 1)])), ("ring", [0]))

    def test_minutes_below_and_above(self):
        self.assertEqual(self.check(free_log(2, [(0, 1, LAST)]))[0], {"na": LAST, "nb": 0})
        self.assertEqual(self.check_refused(free_log(2, [(0, 1, LAST + 1)])), ("past", [0]))
        self.assertEqual(self.check(free_log(2, [(0, 1, -2000000000)])), ({"na": LAST, "nb": LAST}, []))
        log = Log()
        log.put(At("b", 3))
        log.put(Entry("a"))
        log.bind("b", "a", -7)
        self.assertEqual(self.check(log)[0], {"b": 3, "a": 10})

    def test_refused_with_each_kind_of_paper(self):
        log = log_of([[0, 1], [], [0, 1]], [(0, 0, 1)])
        self.assertEqual(self.check_refused(log), ("empty", "nb"))
        log = log_of([[0, 1], [2], [0, 1]], [(0, 0, 1), (0, 1, 0)])
        self.assertEqual(self.check_refused(log), ("ring", [0]))
        log.unbind(0)
        self.assertEqual(self.check_refused(log), ("past", [0]))

    def test_the_paper_is_one_of_steps_upwards(self):
        # Downwards the same bonds would be taken the other way about.
        log = within([9, 9, 9], [(1, 0, 5), (2, 1, 5)])
        self.assertEqual(self.check_refused(log), ("past", [0, 1]))
        self.assertEqual(self.check_refused(zigzag_log())[0], "past")

    def test_small_logs_gone_through_whole(self):
        told = refused = 0
        for turn, case in enumerate(small_cases(93, 1500)):
            moments, bonds = case
            log = log_of(moments, bonds, turn)
            ways = all_ways(moments, bonds)
            if ways:
                wanted = [max(values[entry] for values in ways) for entry in range(len(moments))]
                self.assertEqual(list(self.check(log)[0].values()), wanted)
                told += 1
            else:
                self.check_refused(log)
                refused += 1
        self.assertGreater(min(told, refused), 300)

    def test_few_steps_over_many_millions(self):
        bonds = [(entry + 1, entry, 16 * 10 ** 6) for entry in range(59)]
        for order in (bonds, list(reversed(bonds))):
            way, steps = self.check(free_log(60, order))
            self.assertEqual(list(way.values()), [LAST - 16 * 10 ** 6 * (59 - entry) for entry in range(60)])
            self.assertEqual(len(steps), 59)
        self.assertLessEqual(len(self.check(free_log(57, trap(28)))[1]), 84)

    def test_many_tuples(self):
        log = Log()
        log.put(Sifted("even", Within("x", 0, 999), lambda moment: moment % 2 == 0 or moment < 9))
        log.put(Sifted("odd", Within("x", 0, 999), lambda moment: moment % 2 == 1))
        log.bind("even", "odd", 0)
        log.bind("odd", "even", 0)
        self.assertEqual(self.check(log)[0], {"even": 7, "odd": 7})

    def test_full_logs(self):
        for seed in range(4):
            log, way = full_log(seed)
            told = self.check(log)[0]
            self.assertTrue(all(way[name] <= told[name] for name in way))

    def test_told_is_the_askers_own(self):
        log = free_log(2, [(0, 1, 3)])
        way, steps = latest(log)
        way.clear()
        steps.append(7)
        self.assertEqual(latest(log), ({"na": LAST, "nb": LAST - 3}, [0]))
        told = latest(log)
        log.bind("nb", "na", -1)
        log.drop("na")
        self.assertEqual(told, ({"na": LAST, "nb": LAST - 3}, [0]))

    def test_a_refusals_paper_is_the_askers_own(self):
        for log in (free_log(2, [(0, 1, 5), (1, 0, -4)]), free_log(2, [(0, 1, LAST + 1)])):
            paper = no_way(self, latest, log)
            wanted = (paper[0], list(paper[1]))
            paper[1].clear()
            self.assertEqual(no_way(self, latest, log), wanted)
            self.assertEqual(paper[1], [])


class ByHand(unittest.TestCase):
    def test_last_before(self):
        spans = [(1, 3), (5, 5), (9, 12)]
        for number in range(15):
            below = [moment for moment in numbers_in(spans) if moment <= number]
            self.assertEqual(last_before(spans, number), max(below, default=None))


if __name__ == "__main__":
    unittest.main()
