import random
import unittest

from foldlog.frames import Frame
from foldlog.raising import first_lows, raised, walked
from foldlog.rings import ring_of
from foldlog.spans import has
from framesets import (first_of, frame_by, has_ring, least_way, longest_chain, small_cases, some_bonds, step, trap, walk, zigzag)

MOST = 10 ** 15 - 1


def seen(frame):
    return (frame.spans(), frame.bonds())


class FirstLows(unittest.TestCase):
    def test_first_moments(self):
        spans = [[(3, 9), (20, 30)], [], [(-9, -9), (0, 5)], [(-MOST, MOST)], [(MOST, MOST)]]
        self.assertEqual(first_lows(Frame(spans, [(0, 2, 50)])), [3, None, -9, -MOST, MOST])
        self.assertEqual(first_lows(Frame([], [])), [])

    def test_told_is_the_askers_own(self):
        frame = Frame([[(3, 9)], []], [])
        first_lows(frame).clear()
        self.assertEqual(first_lows(frame), [3, None])


class Walked(unittest.TestCase):
    def test_no_steps(self):
        self.assertEqual(walked(Frame([[(3, 9)], []], [(0, 0, 5)]), []), [3, None])
        self.assertEqual(walked(Frame([], []), []), [])

    def test_into_a_tuple_and_over_a_gap(self):
        spans = [[(10, 10)], [(0, 12), (20, 25), (40, 40)]]
        for minutes, wanted in ((-20, 0), (-10, 0), (-9, 1), (0, 10), (2, 12), (3, 20), (10, 20), (15, 25), (16, 40), (30, 40), (31, None)):
            self.assertEqual(walked(Frame(spans, [(1, 0, minutes)]), [0]), [10, wanted])

    def test_steps_that_raise_nothing(self):
        frame = Frame([[(10, 10)], [(10, 50)]], [(1, 0, -5), (1, 0, 0), (1, 0, 4)])
        self.assertEqual(walked(frame, [0, 1, 0]), [10, 10])
        self.assertEqual(walked(frame, [2, 0, 1, 2, 2]), [10, 14])

    def test_an_entry_with_itself(self):
        spans = [[(0, 5), (9, 9)]]
        self.assertEqual([walked(Frame(spans, [(0, 0, minutes)]), [0, 0]) for minutes in (-3, 0)], [[0], [0]])
        frame = Frame(spans, [(0, 0, 3)])
        self.assertEqual([walked(frame, [0] * many) for many in range(6)], [[0], [3], [9], [None], [None], [None]])

    def test_behind_an_entry_without_a_moment(self):
        spans = [[(0, 5)], [(0, 50)], []]
        bonds = [(0, 1, 9), (1, 0, 7), (1, 2, 3), (2, 1, 3), (1, 1, 2), (2, 2, 5)]
        frame = Frame(spans, bonds)
        self.assertEqual(walked(frame, [0]), [None, 0, None])
        self.assertEqual(walked(frame, [0, 1, 0]), [None, 0, None])
        self.assertEqual(walked(frame, [2, 3, 5]), [0, 0, None])
        # All are taken, also those behind a step that left an entry without a moment.
        self.assertEqual(walked(frame, [0, 4, 4, 1]), [None, 4, None])
        self.assertEqual(walked(frame, [1, 0, 4]), [None, 9, None])

    def test_spans_below_0(self):
        frame = Frame([[(-20, -15), (-3, -3)], [(-30, 30)]], [(1, 0, -5), (0, 1, 6), (0, 1, 20)])
        self.assertEqual(walked(frame, [0]), [-20, -25])
        self.assertEqual(walked(frame, [0, 1]), [-19, -25])
        self.assertEqual(walked(frame, [0, 2]), [-3, -25])
        self.assertEqual(walked(frame, [0, 2, 0, 2]), [None, -8])

    def test_by_hand(self):
        chance = random.Random(51)
        for low in (0, -4):
            for moments, bonds in small_cases(51, 400, low, low + 9):
                frame = frame_by(moments, bonds)
                for turn in range(4):
                    steps = [chance.randrange(len(bonds)) for place in range(chance.randint(0, 9))] if bonds else []
                    wanted = list(steps)
                    self.assertEqual(walked(frame, steps), walk(frame.spans(), bonds, steps))
                    self.assertEqual(steps, wanted)

    def test_100000_steps(self):
        spans, bonds = zigzag(50, 900)
        frame = Frame(spans, bonds)
        steps = (list(range(1, 50)) + [0]) * 2000
        lows = walked(frame, steps)
        self.assertEqual(lows.count(None), 1)
        self.assertEqual(lows.index(None), 0)
        self.assertEqual(walked(Frame([[(0, 10 ** 9)]], [(0, 0, 1)]), [0] * 100000), [100000])

    def test_frame_stays_and_told_is_the_askers_own(self):
        frame = Frame([[(0, 5)], [(0, 50)]], [(1, 0, 7)])
        before = seen(frame)
        walked(frame, [0]).clear()
        walked(frame, []).clear()
        self.assertEqual(walked(frame, [0]), [0, 7])
        self.assertEqual(seen(frame), before)


class Raised(unittest.TestCase):
    def check(self, frame, lows):
        # What is told, gone through by hand; the lows that were handed in stay.
        spans, bonds = seen(frame)
        handed = list(lows)
        told = raised(frame, handed)
        self.assertEqual(handed, lows)
        self.assertIsNot(told[0], handed)
        self.assertEqual(seen(frame), (spans, bonds))
        self.assertIs(type(told), tuple)
        self.assertEqual([type(part) for part in told[:2]], [list, list])
        end, steps, past = told
        at = list(lows)
        for place, number in enumerate(steps):
            ahead, at = at, step(spans, at, bonds[number])
            self.assertNotEqual(ahead, at)
            if place == len(steps) - 1 and past is not None:
                self.assertEqual(bonds[number][0], past)
                self.assertIsNone(at[past])
                self.assertEqual(end, ahead)
            else:
                self.assertNotIn(None, at)
        if past is None:
            self.assertEqual(end, at)
            self.assertTrue(all(end[later] >= end[earlier] + minutes for later, earlier, minutes in bonds))
            self.assertTrue(all(has(spans[entry], low) for entry, low in enumerate(end)))
        else:
            self.assertTrue(steps)
        return told

    def test_nothing_to_do(self):
        self.assertEqual(self.check(Frame([], []), []), ([], [], None))
        self.assertEqual(self.check(Frame([[(3, 9)]], []), [5]), ([5], [], None))
        self.assertEqual(self.check(Frame([[(3, 9)], [(0, 9)]], [(0, 1, 3), (0, 0, 0), (1, 1, -4)]), [3, 0]), ([3, 0], [], None))

    def test_one_step(self):
        frame = Frame([[(3, 9)], [(0, 9), (20, 30)]], [(1, 0, 5), (1, 0, 8)])
        self.assertEqual(self.check(frame, [3, 0])[0], [3, 20])
        self.assertEqual(self.check(frame, [9, 30]), ([9, 30], [], None))
        self.assertEqual(self.check(frame, [3, 25]), ([3, 25], [], None))

    def test_past(self):
        frame = Frame([[(3, 9)], [(0, 9)]], [(1, 0, 7)])
        self.assertEqual(self.check(frame, [3, 0]), ([3, 0], [0], 1))
        self.assertEqual(self.check(frame, [3, 9])[2], 1)
        frame = Frame([[(3, 9)], [(0, 9)], [(0, 9)]], [(2, 1, 4), (1, 0, 3)])
        self.assertEqual(self.check(frame, [3, 0, 0])[2], 2)

    def test_minutes_together_0(self):
        # Round and round, until both have moments that fit.
        frame = Frame([[(0, 0), (2, 2), (4, 4), (7, 9)], [(1, 1), (3, 3), (5, 8)]], [(0, 1, 0), (1, 0, 0)])
        self.assertEqual(self.check(frame, [0, 1])[0], [7, 7])
        frame = Frame([[(0, 0), (2, 2), (4, 4)], [(1, 1), (3, 3), (5, 8)]], [(0, 1, 0), (1, 0, 0)])
        self.assertEqual(self.check(frame, [0, 1])[2], 0)

    def test_least_of_all(self):
        compared = past = 0
        for low in (0, -4):
            for moments, bonds in small_cases(61, 1500, low, low + 7):
                if [] in moments or has_ring(len(moments), bonds):
                    continue
                frame = frame_by(moments, bonds)
                told = self.check(frame, first_lows(frame))
                least = least_way(moments, bonds)
                self.assertIs(told[2] is None, least is not None)
                if least is not None:
                    self.assertEqual(told[0], least)
                compared += 1
                past += least is None
        self.assertGreater(compared, 800)
        self.assertGreater(past, 80)

    def test_from_other_lows_than_the_first(self):
        chance = random.Random(62)
        for moments, bonds in small_cases(62, 1200):
            if [] in moments or has_ring(len(moments), bonds):
                continue
            lows = [chance.choice(numbers) for numbers in moments]
            left = [[number for number in numbers if number >= low] for numbers, low in zip(moments, lows)]
            told = self.check(frame_by(moments, bonds), lows)
            least = least_way(left, bonds)
            self.assertEqual(told[0] if told[2] is None else None, least)

    def test_tuples_of_many_millions(self):
        spans = [[(0, MOST)] for entry in range(60)]
        bonds = [(entry + 1, entry, 10 ** 12 + entry) for entry in range(59)] + [(0, 59, -10 ** 14)]
        for order in (bonds, list(reversed(bonds))):
            end, steps, past = self.check(Frame(spans, order), [0] * 60)
            self.assertIsNone(past)
            self.assertEqual(end[59], 59 * 10 ** 12 + sum(range(59)))
            self.assertLessEqual(len(steps), len(bonds))

    def test_past_at_the_end_of_millions(self):
        spans = [[(0, 10 ** 9)] for entry in range(60)]
        bonds = [(entry + 1, entry, 17 * 10 ** 6) for entry in range(59)]
        for order in (bonds, list(reversed(bonds))):
            end, steps, past = self.check(Frame(spans, order), [0] * 60)
            self.assertEqual(past, 59)
            self.assertLessEqual(longest_chain(order, steps), 60)

    def test_many_ways_to_each_entry(self):
        bonds = trap(28)
        many = 57
        chance = random.Random(63)
        for turn in range(6):
            end, steps, past = self.check(Frame([[(0, MOST)]] * many, bonds), [0] * many)
            self.assertEqual(end[56], sum(2 ** layer + 1 for layer in range(1, 29)))
            self.assertLessEqual(len(steps), len(bonds))
            chance.shuffle(bonds)

    def test_few_steps_where_no_entry_leaps(self):
        chance = random.Random(64)
        for turn in range(40):
            many = chance.randint(2, 60)
            heights = [chance.randint(-10 ** 12, 10 ** 12) for entry in range(many)]
            bonds = [(later, earlier, heights[later] - heights[earlier] - abs(minutes))
                     for later, earlier, minutes in some_bonds(chance, many, 101, 10 ** 9)]
            frame = Frame([[(0, MOST)]] * many, bonds)
            self.assertIsNone(ring_of(frame))
            lows = [chance.randint(0, 10 ** 12) for entry in range(many)]
            end, steps, past = self.check(frame, lows)
            self.assertIsNone(past)
            self.assertLessEqual(longest_chain(bonds, steps), many)
            self.assertLessEqual(len(steps), len(bonds))

    def test_many_tuples(self):
        spans, bonds = zigzag(2, 1000)
        end, steps, past = self.check(Frame(spans, bonds), [0, 1])
        self.assertEqual((len(steps), past), (1999, 0))
        spans[0].append((10 ** 9, 10 ** 9 + 5))
        spans[1].append((10 ** 9 + 3, 10 ** 9 + 9))
        end, steps, past = self.check(Frame(spans, bonds), [0, 1])
        self.assertEqual((end, past), ([10 ** 9 + 3, 10 ** 9 + 3], None))

    def test_sixty_entries_of_a_thousand_tuples(self):
        spans, bonds = zigzag(60, 1000)
        for order in (bonds, list(reversed(bonds))):
            frame = Frame(spans, order)
            end, steps, past = raised(frame, first_lows(frame))
            self.assertEqual((len(steps), past), (59941, 0))
            self.assertEqual(end, [one[-1][0] for one in spans])
            self.assertEqual(walked(frame, steps[:-1]), end)
            self.assertIsNone(walked(frame, steps)[0])

    def test_every_leap_goes_through_all(self):
        # Two entries leap by turns, and all others stand in a row between them.
        spans = [[(10 * turn + half, 10 * turn + half) for turn in range(100)] for half in (0, 5)] + [[(0, 10 ** 9)]] * 58
        bonds = [(entry + 1, entry, 0) for entry in range(2, 59)] + [(0, 59, 0), (1, 59, 0), (2, 0, 0), (2, 1, 0)]
        bonds += [(entry + 2, entry, 0) for entry in range(2, 40)]
        end, steps, past = self.check(Frame(spans, bonds), [first_of(one) for one in spans])
        self.assertEqual(past, 0)
        self.assertLessEqual(len(steps), 200 * len(bonds))

    def test_told_is_the_askers_own(self):
        frame = Frame([[(3, 9)], [(0, 9), (20, 30)]], [(1, 0, 5)])
        for lows in ([3, 0], [3, 20]):
            wanted = raised(frame, lows)
            kept = (list(wanted[0]), list(wanted[1]), wanted[2])
            told = raised(frame, lows)
            told[0].clear()
            told[1].append(7)
            self.assertEqual(raised(frame, lows), kept)
            self.assertEqual(wanted, kept)


if __name__ == "__main__":
    unittest.main()
