import unittest

from foldlog.papers import settled
from foldlog.raising import Raiser
from foldlog.sweeps import Sweep, reach_from
from framesets import all_ways, frame_by, small_cases


def stretches(frame, lows, entry):
    # The stretches of a sweep, each with the way that is told at its end.
    sweep = Sweep(Raiser(frame), lows, entry)
    told = []
    while sweep.onward():
        told.append((sweep.low, sweep.high, sweep.last_way()))
    return told


class Reach(unittest.TestCase):
    def test_most_minutes(self):
        bonds = [(1, 0, 5), (2, 1, -3), (2, 0, 1), (3, 3, 0), (0, 2, -9), (1, 0, 4)]
        self.assertEqual(reach_from(bonds, 0), {0: 0, 1: 5, 2: 2})
        self.assertEqual(reach_from(bonds, 2), {2: 0, 0: -9, 1: -4})
        self.assertEqual(reach_from(bonds, 3), {3: 0})
        self.assertEqual(reach_from([], 7), {7: 0})


class Stretches(unittest.TestCase):
    def test_one_by_one(self):
        frame = frame_by([range(10), [1, 2, 5, 7]], [(1, 0, 0), (0, 1, -1)])
        self.assertEqual(stretches(frame, [0, 1], 0), [(0, 2, [2, 2]), (4, 5, [5, 5]), (6, 7, [7, 7])])
        self.assertEqual(stretches(frame, [0, 1], 1), [(1, 2, [1, 2]), (5, 5, [4, 5]), (7, 7, [6, 7])])

    def test_the_way_at_the_end_is_the_earliest_one(self):
        tried = 0
        for moments, bonds in small_cases(141, 800, -4, 6):
            frame = frame_by(moments, bonds)
            lows = settled(["x"] * len(moments), frame)[1]
            if lows is None:
                continue
            ways = all_ways(moments, bonds)
            for entry in range(len(moments)):
                told = stretches(frame, lows, entry)
                found = [moment for low, high, way in told for moment in range(low, high + 1)]
                self.assertEqual(found, sorted({values[entry] for values in ways}))
                for low, high, way in told:
                    held = [values for values in ways if values[entry] == high]
                    self.assertEqual(way, [min(numbers) for numbers in zip(*held)])
                    tried += 1
        self.assertGreater(tried, 1000)

    def test_lows_handed_in_stay(self):
        frame = frame_by([[0, 5], [0, 5]], [(0, 1, 0), (1, 0, 0)])
        lows = [0, 0]
        self.assertEqual(len(stretches(frame, lows, 0)), 2)
        self.assertEqual(lows, [0, 0])


if __name__ == "__main__":
    unittest.main()
