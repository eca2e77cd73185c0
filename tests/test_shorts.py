import itertools
import random
import unittest

from foldlog.entries import At, Entry, Within
from foldlog.errors import NoPaper
from foldlog.logs import Log
from foldlog.papers import is_paper, paper_of
from foldlog.shorts import is_short, short_paper
from framesets import goes_past, small_cases, walk
from logsets import a_log, free_log, log_of, spans_by_hand, told_by, within, zigzag_log
from refusals import ODD_THINGS, THIRTY, a_function, deep_list, refuses


def left_out(numbers):
    # All rows that are left when a single step is left out.
    return [numbers[:place] + numbers[place + 1:] for place in range(len(numbers))]


def some_past(chance, spans, bonds, most):
    # A row of steps taken by chance until one goes past, or None.
    row = []
    for turn in range(most):
        row.append(chance.randrange(len(bonds)))
        if None in walk(spans, bonds, row):
            return row
    return None


def is_part(part, whole):
    # Whether the one has some of the other's things, in their order.
    rest = iter(whole)
    return all(number in rest for number in part)


class Short(unittest.TestCase):
    def test_past(self):
        log = within([9, 9, 4], [(1, 0, 3), (2, 1, 2), (0, 0, 0), (2, 0, 4), (0, 2, 1)])
        for numbers, wanted in (([0, 1], True), ([0, 0, 1], False), ([2, 0, 1], False), ([0, 2, 1], False), ([3, 0, 1], False),
                                ([0, 4, 1], False), ([3, 4, 3], False), ([4, 3], True), ([3, 4, 0, 1], False), ([3, 4, 0, 3], False)):
            self.assertTrue(is_paper(log, ("past", numbers)), numbers)
            self.assertIs(is_short(log, ("past", numbers)), wanted, numbers)

    def test_one_step(self):
        self.assertIs(is_short(within([3, 3], [(1, 0, 4)]), ("past", [0])), True)

    def test_only_two_together_can_go(self):
        # No single one of the two ways round can be left out of both, each one can.
        log = within([9, 9, 9, 4], [(1, 0, 3), (2, 0, 3), (3, 1, 2), (3, 2, 2)])
        self.assertIs(is_short(log, ("past", [0, 1, 2])), False)
        self.assertIs(is_short(log, ("past", [0, 2])), True)
        self.assertIs(is_short(log, ("past", [1, 3])), True)

    def test_equal_steps(self):
        log = within([5], [(0, 0, 2)])
        self.assertIs(is_short(log, ("past", [0, 0, 0])), True)
        self.assertIs(is_short(log, ("ring", [0, 0, 0])), True)
        log = within([3, 3], [(1, 0, 4), (1, 0, 4)])
        self.assertIs(is_short(log, ("past", [0])), True)
        self.assertIs(is_short(log, ("past", [0, 1])), False)

    def test_rings_and_empty_ones(self):
        log = free_log(3, [(0, 1, 5), (1, 0, -4), (0, 0, 1), (1, 1, 0), (2, 0, 9)])
        for numbers in ([0, 1], [1, 0], [2], [2, 2], [0, 1, 0, 1], [0, 1, 3], [0, 2, 1]):
            self.assertIs(is_short(log, ("ring", numbers)), True, numbers)
        log = within([3, -1, -1], [(0, 0, 1)])
        for name in ("nb", "nc"):
            self.assertIs(is_short(log, ("empty", name)), True)
        self.assertIs(is_short(log, ("empty", "na")), False)

    def test_what_is_no_paper(self):
        log = free_log(3, [(0, 1, 5), (1, 0, -4), (2, 0, 9)])
        for numbers in ([0], [2], [0, 2], [], [3], [0, -1]):
            self.assertIs(is_short(log, ("ring", numbers)), False)
            self.assertIs(is_short(log, ("past", numbers)), False)
        for log in (Log(), a_log(), free_log(1, [(0, 0, 1)]), within([-1], []), within([3, 3], [(1, 0, 4)])):
            for thing in ODD_THINGS + [deep_list(), 7, log, ("ring",), ("past",), ("empty",), ("past", []), ("ring", [True]),
                                       ("past", (0,)), ["past", [0]], ("past", [0], [0]), ("past", [THIRTY])]:
                self.assertIs(is_short(log, thing), False)

    def test_ahead_of_its_end_and_behind(self):
        # Rows that go on behind the step that goes past, or do not come to it.
        log = within([9, 9, 4], [(1, 0, 3), (2, 1, 2)])
        for numbers in ([0], [1], [1, 0], [0, 1, 1], [0, 1, 0]):
            self.assertIs(is_short(log, ("past", numbers)), False)

    def test_all_short_rows_of_small_logs(self):
        told = {True: 0, False: 0}
        for turn, case in enumerate(small_cases(111, 150)):
            moments, bonds = case
            bonds = bonds[:4]
            log = log_of(moments, bonds, turn)
            spans = [spans_by_hand(numbers) for numbers in moments]
            for length in (1, 2, 3, 4):
                for row in itertools.product(range(len(bonds)), repeat=length):
                    numbers = list(row)
                    past = goes_past(spans, bonds, numbers)
                    wanted = past and not any(goes_past(spans, bonds, rest) for rest in left_out(numbers))
                    self.assertIs(is_short(log, ("past", numbers)), wanted)
                    if past:
                        told[wanted] += 1
        self.assertTrue(all(many > 100 for many in told.values()), told)

    def test_two_hundred_steps(self):
        log = Log()
        log.put(Within("a", 0, 199))
        log.bind("a", "a", 1)
        log.bind("a", "a", 0)
        self.assertIs(is_short(log, ("past", [0] * 200)), True)
        self.assertIs(is_short(log, ("past", [0] * 199)), False)
        log.put(Entry("b"))
        self.assertIs(is_short(log, ("past", [0] * 200)), True)
        log.drop("a")
        log.put(Within("a", 0, 198))
        log.bind("a", "a", 1)
        log.bind("a", "a", 0)
        for place in (0, 1, 100, 198, 199):
            self.assertIs(is_short(log, ("past", [0] * place + [1] + [0] * (199 - place))), False)

    def test_longer_rows_are_answered(self):
        log = zigzag_log()
        numbers = [0, 1] * 499 + [0]
        self.assertIs(type(is_short(log, ("past", numbers))), bool)
        self.assertIs(type(is_short(log, ("past", numbers[:-1] + [1] * 90000 + [0]))), bool)

    def test_log_and_thing_stay(self):
        log = within([9, 9, 4], [(1, 0, 3), (2, 1, 2), (0, 0, 1)])
        before = told_by(log)
        for thing in (("past", [0, 1]), ("past", [0, 0, 1]), ("ring", [2]), ("past", [1, 0])):
            wanted = list(thing[1])
            first = is_short(log, thing)
            self.assertEqual(thing[1], wanted)
            self.assertIs(is_short(log, thing), first)
        self.assertEqual(told_by(log), before)


class MadeShort(unittest.TestCase):
    def check(self, log, paper):
        before, row = told_by(log), list(paper[1])
        told = short_paper(log, paper)
        self.assertEqual((told_by(log), list(paper[1])), (before, row))
        self.assertIs(type(told), tuple)
        self.assertEqual((len(told), told[0]), (2, paper[0]))
        self.assertIs(is_paper(log, told), True)
        self.assertIs(is_short(log, told), True)
        if paper[0] == "empty":
            self.assertEqual(told, paper)
        else:
            self.assertIs(type(told[1]), list)
            self.assertIsNot(told[1], paper[1])
            self.assertTrue(is_part(told[1], row))
        if is_short(log, paper):
            self.assertEqual(told, paper)
        return told

    def test_a_step_goes(self):
        log = within([9, 9, 4], [(1, 0, 3), (2, 1, 2), (0, 0, 0), (2, 0, 4), (0, 2, 1)])
        for numbers in ([0, 1], [0, 0, 1], [2, 0, 1], [0, 2, 1], [3, 0, 1], [0, 4, 1], [2, 0, 4, 0, 2, 1]):
            self.assertEqual(self.check(log, ("past", numbers)), ("past", [0, 1]))
        self.assertEqual(self.check(log, ("past", [2, 3, 4, 2, 3])), ("past", [4, 3]))

    def test_a_step_that_is_needed_twice(self):
        log = within([9, 6], [(1, 0, 4), (0, 1, 1), (0, 0, 0)])
        for numbers in ([0, 1, 0], [0, 2, 1, 2, 0], [1, 0, 1, 0]):
            self.assertEqual(self.check(log, ("past", numbers)), ("past", [0, 1, 0]))

    def test_any_of_several(self):
        log = within([9, 9, 9, 4], [(1, 0, 3), (2, 0, 3), (3, 1, 2), (3, 2, 2)])
        self.assertEqual(self.check(log, ("past", [0, 1, 2])), ("past", [0, 2]))
        self.assertEqual(self.check(log, ("past", [1, 0, 3])), ("past", [1, 3]))
        log = within([3, 3, 4], [(1, 0, 1), (1, 0, 2), (2, 1, 4), (2, 1, 4)])
        self.assertIn(self.check(log, ("past", [0, 1, 2])), [("past", [0, 2]), ("past", [1, 2])])

    def test_a_paper_that_is_told(self):
        tried = 0
        for turn, case in enumerate(small_cases(112, 1200)):
            log = log_of(case[0], case[1], turn)
            paper = paper_of(log)
            if paper is not None:
                self.check(log, paper)
                tried += paper[0] == "past"
        self.assertGreater(tried, 50)

    def test_rings_stay(self):
        log = free_log(3, [(0, 1, 5), (1, 0, -4), (0, 0, 1), (1, 1, 0)])
        for numbers in ([0, 1], [1, 0], [2], [2, 2], [0, 1, 0, 1], [0, 1, 3], [0, 2, 1]):
            self.assertEqual(self.check(log, ("ring", numbers)), ("ring", numbers))
        self.assertEqual(len(self.check(log, ("ring", [0, 1] * 100))[1]), 200)

    def test_empty_ones_stay(self):
        log = within([3, -1, -1], [(0, 0, 1)])
        for name in ("nb", "nc"):
            self.assertEqual(self.check(log, ("empty", name)), ("empty", name))

    def test_rows_by_chance(self):
        chance = random.Random(113)
        kinds = {"stays": 0, "one": 0, "several": 0}
        for turn, case in enumerate(small_cases(113, 4000, 0, 12)):
            moments, bonds = case
            spans = [spans_by_hand(numbers) for numbers in moments]
            row = some_past(chance, spans, bonds, 15) if bonds and all(moments) else None
            if row is None:
                continue
            log = log_of(moments, bonds, turn)
            told = self.check(log, ("past", row))[1]
            self.assertTrue(goes_past(spans, bonds, told))
            self.assertFalse(any(goes_past(spans, bonds, rest) for rest in left_out(told)))
            self.assertIs(is_short(log, ("past", row)), told == row)
            kinds[("stays", "one", "several")[min(len(row) - len(told), 2)]] += 1
        self.assertTrue(all(many > 200 for many in kinds.values()), kinds)

    def test_two_hundred_steps(self):
        chance = random.Random(114)
        bonds = [(0, 0, 1), (1, 0, 0), (0, 1, 1), (1, 1, 2), (0, 0, -3), (1, 0, -9)]
        log = within([90, 90], bonds)
        longest = 0
        for turn in range(40):
            row = some_past(chance, [[(0, 90)], [(0, 90)]], bonds, 200)
            if row is not None:
                self.check(log, ("past", row))
                longest = max(longest, len(row))
        self.assertGreater(longest, 150)
        log = within([199], [(0, 0, 1), (0, 0, 0)])
        self.assertEqual(self.check(log, ("past", [0] * 200)), ("past", [0] * 200))
        log = within([99], [(0, 0, 1), (0, 0, 0)])
        self.assertEqual(self.check(log, ("past", [1, 0] * 100)), ("past", [0] * 100))

    def test_refused(self):
        log = free_log(3, [(0, 1, 5), (1, 0, -4), (2, 0, 9)])
        for thing in (("ring", [0]), ("ring", []), ("past", [0, 1]), ("empty", "na"), ("empty", "x"), ("ring", [0, 3]),
                      ("ring", [0, True]), ["ring", [0, 1]], ("ring", (0, 1)), ("ring", [0, 1], None), a_function, log):
            refuses(self, NoPaper, "found", thing, short_paper, log, thing)
        for log in (Log(), a_log(), within([3, 3], [(1, 0, 4)])):
            for thing in ODD_THINGS + [deep_list(), 7, log, ("past", [0, 0]), ("past", [deep_list()]), ("empty", deep_list())]:
                refuses(self, NoPaper, "found", thing, short_paper, log, thing)

    def test_a_paper_of_another_log(self):
        paper = ("past", [0])
        log = within([3, 3], [(1, 0, 4)])
        self.assertEqual(short_paper(log, paper), paper)
        log.put(At("other", 3))
        self.assertEqual(short_paper(log, paper), paper)
        log.put(Within("none", 1, 0))
        refuses(self, NoPaper, "found", paper, short_paper, log, paper)

    def test_told_is_the_askers_own(self):
        past, ring = within([3, 3], [(1, 0, 4)]), free_log(1, [(0, 0, 1)])
        for log, paper in ((past, ("past", [0])), (ring, ("ring", [0]))):
            short_paper(log, paper)[1].append(9)
            self.assertEqual(short_paper(log, paper), paper)
            self.assertEqual(paper[1], [0])
            told = short_paper(log, paper)
            paper[1].clear()
            self.assertEqual(told[1], [0])


if __name__ == "__main__":
    unittest.main()
