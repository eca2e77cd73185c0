import itertools
import random
import unittest

from foldlog.entries import At, Entry, Joint, Read, Within
from foldlog.frames import frame_of
from foldlog.logs import Log
from foldlog.papers import is_paper, paper_of
from foldlog.raising import walked
from foldlog.tables import Table
from framesets import goes_past, goes_round, is_paper_told_of, least_way, small_cases, trap, walk
from logsets import FOLD, LAST, a_log, free_log, log_of, told_by, within, zigzag_log
from refusals import ODD_THINGS, THIRTY, a_function, deep_list


class Told(unittest.TestCase):
    def check(self, log):
        before = told_by(log)
        paper = paper_of(log)
        self.assertEqual(told_by(log), before)
        self.assertTrue(is_paper_told_of(log, paper), paper)
        self.assertIs(is_paper(log, paper), True)
        return paper

    def test_without_entries(self):
        self.assertIsNone(paper_of(Log()))
        log = Log()
        log.clock("here", Table([(0, 0)]))
        self.assertIsNone(paper_of(log))

    def test_where_there_is_a_way(self):
        for log in (free_log(1), free_log(60), free_log(2, [(0, 1, LAST), (1, 0, -LAST)]), within([5, 5], [(0, 1, 5)])):
            self.assertIsNone(paper_of(log))

    def test_empty(self):
        self.assertEqual(self.check(within([-1], [])), ("empty", "na"))
        self.assertEqual(self.check(within([3, -1, 3, -1], [])), ("empty", "nb"))
        log = Log()
        log.clock("fold", Table(FOLD))
        for entry in (Entry("z"), Read("y", "fold", 12), Joint("a", [At("x", 3), At("x", 4)])):
            log.put(entry)
        self.assertEqual(self.check(log), ("empty", "y"))
        log.drop("y")
        self.assertEqual(self.check(log), ("empty", "a"))
        log.drop("a")
        self.assertIsNone(paper_of(log))

    def test_empty_goes_ahead_of_ring_and_past(self):
        self.assertEqual(self.check(within([3, 3, -1], [(0, 0, 1), (1, 0, 9)])), ("empty", "nc"))

    def test_ring(self):
        self.assertEqual(self.check(within([3], [(0, 0, 1)])), ("ring", [0]))
        self.assertEqual(self.check(free_log(1, [(0, 0, 0), (0, 0, -1), (0, 0, 5)])), ("ring", [2]))
        self.assertEqual(sorted(self.check(free_log(2, [(0, 1, 5), (1, 0, -4)]))[1]), [0, 1])
        self.assertEqual(sorted(self.check(free_log(3, [(1, 0, 7), (2, 1, -10), (0, 2, 3), (0, 2, 4)]))[1]), [0, 1, 3])

    def test_ring_goes_ahead_of_past(self):
        self.assertEqual(self.check(within([3, 3], [(1, 0, 9), (0, 0, 1)])), ("ring", [1]))
        self.assertEqual(self.check(within([3, 3], [(0, 0, 1), (1, 0, 9)])), ("ring", [0]))
        self.assertEqual(self.check(free_log(2, [(0, 1, LAST + 1), (1, 1, 1)])), ("ring", [1]))

    def test_past(self):
        self.assertEqual(self.check(within([3, 3], [(1, 0, 4)])), ("past", [0]))
        self.assertEqual(self.check(within([3, 3, 3], [(2, 1, 2), (1, 0, 2)])), ("past", [1, 0]))
        self.assertEqual(self.check(free_log(2, [(0, 1, LAST + 1)])), ("past", [0]))
        self.assertEqual(self.check(free_log(2, [(0, 1, 2000000001)])), ("past", [0]))

    def test_past_by_minutes_together_0(self):
        log = log_of([[0, 2, 4], [1, 3, 5]], [(0, 1, 0), (1, 0, 0)])
        self.assertEqual(self.check(log), ("past", [0, 1, 0, 1, 0]))

    def test_steps_that_nothing_builds_on_are_left_out(self):
        bonds = [(1, 0, 1), (2, 0, 1), (3, 0, 2), (4, 0, 3), (4, 3, 1), (3, 2, 2), (5, 4, 1), (1, 3, 1)]
        paper = self.check(within([9, 9, 9, 9, 9, 4], bonds))
        self.assertEqual(paper, ("past", [1, 5, 4, 6]))
        paper = self.check(within([9, 9, 9, 9, 9, 4], list(reversed(bonds))))
        self.assertEqual(paper, ("past", [6, 2, 3, 1]))

    def test_long_past(self):
        log = zigzag_log()
        kind, numbers = self.check(log)
        self.assertEqual((kind, len(numbers)), ("past", 999))
        frame = frame_of(log)
        self.assertEqual(walked(frame, numbers[:-1]), [998, 999])
        log.put(Entry("more"))
        log.bind("more", "even", 5)
        log.bind("more", "odd", 5)
        self.assertEqual(len(self.check(log)[1]), 999)

    def test_few_steps_over_many_millions(self):
        bonds = [(entry + 1, entry, 17 * 10 ** 6) for entry in range(59)]
        self.assertEqual(self.check(free_log(60, list(reversed(bonds)))), ("past", list(reversed(range(59)))))
        self.assertIsNone(paper_of(free_log(60, bonds[:58])))
        self.assertIsNone(paper_of(free_log(57, trap(28))))
        layers = trap(28) + [(0, 56, 1 - sum(2 ** layer + 1 for layer in range(1, 29)))]
        self.assertEqual(self.check(free_log(57, layers))[0], "ring")

    def test_small_logs_gone_through_whole(self):
        kinds = {"none": 0, "empty": 0, "ring": 0, "past": 0}
        for turn, case in enumerate(small_cases(71, 1500)):
            moments, bonds = case
            log = log_of(moments, bonds, turn)
            if least_way(moments, bonds) is None:
                kinds[self.check(log)[0]] += 1
            else:
                self.assertIsNone(paper_of(log), case)
                kinds["none"] += 1
        self.assertTrue(all(many > 50 for many in kinds.values()), kinds)

    def test_told_is_the_askers_own(self):
        for log in (free_log(2, [(0, 1, 5), (1, 0, -4)]), within([3, 3, 3], [(2, 1, 2), (1, 0, 2)])):
            paper = paper_of(log)
            wanted = (paper[0], list(paper[1]))
            paper[1].clear()
            self.assertEqual(paper_of(log), wanted)
            self.assertEqual(paper[1], [])

    def test_a_log_that_is_changed(self):
        log = within([3, 3], [(1, 0, 4)])
        paper = paper_of(log)
        log.unbind(0)
        self.assertIsNone(paper_of(log))
        self.assertEqual(paper, ("past", [0]))
        self.assertIs(is_paper(log, paper), False)


class Asked(unittest.TestCase):
    def test_odd_things(self):
        for log in (Log(), a_log(), free_log(1, [(0, 0, 1)]), within([-1], []), within([3, 3], [(1, 0, 4)])):
            for thing in ODD_THINGS + [deep_list(), 7, log, ("ring",), ("past",), ("empty",)]:
                self.assertIs(is_paper(log, thing), False)

    def test_empty(self):
        log = within([3, -1, -1], [(0, 0, 1)])
        for name in ("nb", "nc"):
            self.assertIs(is_paper(log, ("empty", name)), True)
        for thing in ODD_THINGS + ["na", "unknown", ["nb"], ("nb",), 0, 1, log.entry("nb"), deep_list()]:
            self.assertIs(is_paper(log, ("empty", thing)), False)
        for thing in (["empty", "nb"], ("empty", "nb", "nb"), ("Empty", "nb"), ("", "nb"), (None, "nb"), (("empty",), "nb"),
                      ("ring", "nb"), ("past", "nb"), "empty", ("nb", "empty"), (deep_list(), "nb"), ("empty nb",)):
            self.assertIs(is_paper(log, thing), False)

    def test_ring(self):
        log = free_log(3, [(0, 1, 5), (1, 0, -4), (0, 0, 1), (1, 1, 0), (2, 0, 9), (0, 1, 4)])
        for numbers in ([0, 1], [1, 0], [2], [2, 2], [0, 1, 0, 1], [0, 2, 1], [0, 1, 3], [3, 0, 1], [1, 0, 2, 2], [5, 2, 1]):
            self.assertIs(is_paper(log, ("ring", numbers)), True, numbers)
        for numbers in ([0], [1], [3], [4], [5, 1], [0, 4], [0, 1, 4], [1, 5, 3], [0, 0], [2, 0], [0, 1, 1], [1, 2, 0], [5, 1, 2]):
            self.assertIs(is_paper(log, ("ring", numbers)), False, numbers)

    def test_ring_with_entries_without_moments(self):
        log = within([-1, 3], [(0, 0, 1), (0, 1, 3), (1, 0, -2)])
        for thing in (("ring", [0]), ("ring", [1, 2]), ("empty", "na")):
            self.assertIs(is_paper(log, thing), True)
        self.assertIs(is_paper(log, ("past", [0])), False)

    def test_past(self):
        log = within([9, 9, 4], [(1, 0, 3), (2, 1, 2), (0, 0, 0), (2, 0, 4), (0, 2, 1)])
        for numbers in ([0, 1], [2, 0, 0, 2, 1], [0, 3, 1], [3, 0, 1], [3, 2, 2, 0, 1], [0, 4, 1], [3, 4, 3]):
            self.assertIs(is_paper(log, ("past", numbers)), True, numbers)
        # A step too few, one too many, another order.
        for numbers in ([0], [1], [1, 0], [0, 1, 1], [0, 1, 0], [0, 1, 2], [0, 1, 4], [2], [3], [0, 3]):
            self.assertIs(is_paper(log, ("past", numbers)), False, numbers)

    def test_past_of_a_ring(self):
        log = within([5], [(0, 0, 2)])
        for many in range(1, 6):
            self.assertIs(is_paper(log, ("past", [0] * many)), many == 3)
            self.assertIs(is_paper(log, ("ring", [0] * many)), True)

    def test_past_where_an_entry_has_no_moment(self):
        log = within([3, 3], [(1, 0, 4)])
        self.assertIs(is_paper(log, ("past", [0])), True)
        log.put(Within("other", 1, 0))
        self.assertIs(is_paper(log, ("past", [0])), False)

    def test_what_is_no_list_of_bond_numbers(self):
        ring = free_log(2, [(0, 1, 5), (1, 0, -4)])
        past = within([3, 3, 3], [(1, 0, 2), (2, 1, 2)])
        for log, kind in ((ring, "ring"), (past, "past")):
            self.assertIs(is_paper(log, (kind, [0, 1])), True)
            things = [(0, 1), [], (), {0: 0, 1: 1}, "01", [0, True], [False, 1], [0, 2], [0, -1], [-2, -1], [0, None], [0, "1"],
                      [0, [1]], [[0, 1]], [0, THIRTY], [0, -THIRTY], [0, a_function], [0, deep_list()], deep_list(), 0, None]
            for thing in things:
                self.assertIs(is_paper(log, (kind, thing)), False, kind)
            for thing in ([kind, [0, 1]], (kind, [0, 1], [0, 1]), (kind, [0, 1], None), (kind + " ", [0, 1]), (kind.upper(), [0, 1]),
                          (kind,), (None, [0, 1]), ([kind], [0, 1]), ([0, 1], kind), ("empty", [0, 1]), ("way", [0, 1])):
                self.assertIs(is_paper(log, thing), False, kind)

    def test_a_truth_that_is_a_bond(self):
        log = within([3, 3], [(1, 0, 4), (1, 0, 4)])
        for numbers, wanted in (([0], True), ([1], True), ([False], False), ([True], False)):
            self.assertIs(is_paper(log, ("past", numbers)), wanted)
        log = free_log(1, [(0, 0, 1), (0, 0, 1)])
        for numbers, wanted in (([0], True), ([1], True), ([False], False), ([True], False), ([0, True], False)):
            self.assertIs(is_paper(log, ("ring", numbers)), wanted)

    def test_all_short_rows_of_small_logs(self):
        told = {"ring": 0, "past": 0}
        for turn, case in enumerate(small_cases(72, 120)):
            moments, bonds = case
            log = log_of(moments, bonds[:4], turn)
            spans = frame_of(log).spans()
            many = len(log.bonds())
            for length in (1, 2, 3, 4):
                for numbers in itertools.product(range(many), repeat=length):
                    ring, past = goes_round(bonds, list(numbers)), goes_past(spans, bonds, list(numbers))
                    self.assertIs(is_paper(log, ("ring", list(numbers))), ring)
                    self.assertIs(is_paper(log, ("past", list(numbers))), past)
                    told["ring"] += ring
                    told["past"] += past
            for name, numbers in zip(log.names(), moments):
                self.assertIs(is_paper(log, ("empty", name)), numbers == [])
        self.assertTrue(all(many > 100 for many in told.values()), told)

    def test_a_log_with_a_way_has_no_paper(self):
        chance = random.Random(73)
        for turn, case in enumerate(small_cases(73, 300)):
            moments, bonds = case
            if not bonds or least_way(moments, bonds) is None:
                continue
            log = log_of(moments, bonds, turn)
            for length in range(1, 9):
                numbers = [chance.randrange(len(bonds)) for place in range(length)]
                self.assertIs(is_paper(log, ("ring", numbers)), False)
                self.assertIs(is_paper(log, ("past", numbers)), False)

    def test_100000_numbers(self):
        log = free_log(2, [(0, 1, 1), (1, 0, 0), (0, 0, 0)])
        self.assertIs(is_paper(log, ("ring", [0, 1] * 50000)), True)
        self.assertIs(is_paper(log, ("ring", [0, 1] * 49999 + [0])), False)
        log = zigzag_log()
        numbers = [0, 1] * 499 + [0]
        self.assertIs(is_paper(log, ("past", numbers)), True)
        self.assertIs(is_paper(log, ("past", [1] * (100000 - len(numbers)) + numbers)), True)
        self.assertIs(is_paper(log, ("past", numbers + [1] * (100000 - len(numbers)))), False)
        self.assertIs(is_paper(log, ("past", [1] * 100000)), False)

    def test_log_and_thing_stay(self):
        log = within([3, 3, 3], [(1, 0, 2), (2, 1, 2), (0, 0, 1)])
        before = told_by(log)
        for thing in (("past", [0, 1]), ("ring", [2]), ("past", [1, 0]), ("ring", [0, None])):
            wanted = list(thing[1])
            first = is_paper(log, thing)
            self.assertEqual(thing[1], wanted)
            self.assertIs(is_paper(log, thing), first)
        self.assertEqual(told_by(log), before)

    def test_walk_by_hand_agrees(self):
        log = within([9, 9, 4], [(1, 0, 3), (2, 1, 2)])
        frame = frame_of(log)
        self.assertEqual(walk(frame.spans(), frame.bonds(), [0, 1]), [0, 3, None])


if __name__ == "__main__":
    unittest.main()
