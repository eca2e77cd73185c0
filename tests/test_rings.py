import random
import unittest

from foldlog.frames import Frame
from foldlog.rings import ring_of
from framesets import goes_round, has_ring, some_bonds, trap, zigzag

MOST = 10 ** 15 - 1


def free(many, bonds):
    return Frame([[(0, 9)] for entry in range(many)], bonds)


class Rings(unittest.TestCase):
    def check(self, frame):
        # A ring by hand, no bond of which stands twice, and no later entry either.
        bonds = frame.bonds()
        told = ring_of(frame)
        self.assertTrue(goes_round(bonds, told), (bonds, told))
        self.assertEqual(len(told), len(set(told)))
        self.assertEqual(len(told), len({bonds[number][0] for number in told}))
        return told

    def test_without_bonds(self):
        self.assertIsNone(ring_of(Frame([], [])))
        self.assertIsNone(ring_of(free(1, [])))
        self.assertIsNone(ring_of(free(60, [])))

    def test_an_entry_with_itself(self):
        self.assertEqual(self.check(free(1, [(0, 0, 1)])), [0])
        self.assertEqual(self.check(free(3, [(2, 2, 0), (1, 1, -1), (1, 1, MOST)])), [2])
        for minutes in (0, -1, -MOST):
            self.assertIsNone(ring_of(free(1, [(0, 0, minutes)])))

    def test_two_entries(self):
        self.assertEqual(sorted(self.check(free(2, [(0, 1, 5), (1, 0, -4)]))), [0, 1])
        self.assertEqual(sorted(self.check(free(2, [(1, 0, -4), (0, 1, 5)]))), [0, 1])
        self.assertIsNone(ring_of(free(2, [(0, 1, 5), (1, 0, -5)])))
        self.assertIsNone(ring_of(free(2, [(0, 1, 5), (1, 0, -6)])))
        self.assertIsNone(ring_of(free(2, [(0, 1, 5), (0, 1, 7)])))

    def test_direction(self):
        # Round one way only 6 minutes together, the other way there is no ring.
        bonds = [(1, 0, 1), (2, 1, 2), (0, 2, 3), (0, 1, -9), (1, 2, -9), (2, 0, -9)]
        self.assertEqual(sorted(self.check(free(3, bonds))), [0, 1, 2])
        self.assertIsNone(ring_of(free(3, [(1, 0, 1), (2, 1, 2), (2, 0, 3)])))

    def test_minutes_together_0(self):
        self.assertIsNone(ring_of(free(3, [(1, 0, 7), (2, 1, -10), (0, 2, 3)])))
        self.assertIsNone(ring_of(free(60, [(entry, (entry - 1) % 60, 0) for entry in range(60)])))
        spans, bonds = zigzag(60, 3)
        self.assertIsNone(ring_of(Frame(spans, bonds)))

    def test_equal_bonds(self):
        told = self.check(free(2, [(0, 1, 1), (0, 1, 1), (1, 0, 0), (1, 0, 0)]))
        self.assertEqual(len(told), 2)
        self.assertIsNone(ring_of(free(2, [(0, 1, 1), (0, 1, 1), (1, 0, -1), (1, 0, -1)])))
        self.assertEqual(sorted(self.check(free(2, [(0, 1, 1), (1, 0, -2), (1, 0, 0)]))), [0, 2])

    def test_several_rings(self):
        bonds = [(0, 1, 1), (1, 0, 0), (2, 3, 5), (3, 2, 5), (4, 4, 9), (1, 2, 0), (3, 0, -50)]
        self.check(free(5, bonds))
        self.check(free(5, list(reversed(bonds))))

    def test_rings_that_share_an_entry(self):
        # Both rings together are above 0 as well; only one is by itself.
        bonds = [(1, 0, 3), (0, 1, -5), (2, 0, 1), (0, 2, 2)]
        self.assertEqual(sorted(self.check(free(3, bonds))), [2, 3])

    def test_a_ring_of_all_entries(self):
        row = [(entry, (entry - 1) % 60, -1) for entry in range(59)]
        for last, wanted in ((60, list(range(60))), (MOST, list(range(60))), (59, None), (-MOST, None)):
            bonds = row + [(59, 58, last)]
            if wanted is None:
                self.assertIsNone(ring_of(free(60, bonds)))
                self.assertIsNone(ring_of(free(60, list(reversed(bonds)))))
            else:
                self.assertEqual(sorted(self.check(free(60, bonds))), wanted)
                self.assertEqual(sorted(self.check(free(60, list(reversed(bonds))))), wanted)

    def test_a_ring_behind_a_long_row(self):
        row = [(entry + 1, entry, 1) for entry in range(57)]
        for order in (row, list(reversed(row))):
            told = self.check(free(60, order + [(58, 57, 0), (59, 58, -9), (58, 59, 10)]))
            self.assertEqual(sorted(told), [58, 59])
            self.assertIsNone(ring_of(free(60, order + [(58, 57, 0), (59, 58, -9), (58, 59, 9)])))

    def test_spans_play_no_part(self):
        bonds = [(0, 1, 5), (1, 0, -4), (2, 2, 0)]
        for spans in ([[], [], []], [[(0, 0)], [], [(-MOST, MOST)]], [[(-9, -7), (0, 3)], [(100, 200)], [(5, 5)]]):
            self.assertEqual(sorted(self.check(Frame(spans, bonds))), [0, 1])
            self.assertIsNone(ring_of(Frame(spans, bonds[1:])))

    def test_small_frames(self):
        chance = random.Random(41)
        rings = 0
        for turn in range(3000):
            many = chance.randint(1, 6)
            bonds = some_bonds(chance, many, 9, chance.choice([1, 3, 9]))
            frame = free(many, bonds)
            if has_ring(many, bonds):
                rings += 1
                self.check(frame)
            else:
                self.assertIsNone(ring_of(frame), bonds)
        self.assertGreater(rings, 500)
        self.assertLess(rings, 2500)

    def test_large_frames(self):
        chance = random.Random(42)
        for turn in range(20):
            heights = [chance.randint(-MOST // 4, MOST // 4) for entry in range(60)]
            pairs = [(chance.randrange(60), chance.randrange(60)) for bond in range(100)]
            bonds = [(later, earlier, heights[later] - heights[earlier] - chance.randint(0, 2)) for later, earlier in pairs]
            self.assertIsNone(ring_of(free(60, bonds)))
            later, earlier, minutes = bonds[50]
            self.check(free(60, bonds + [(earlier, later, 3 - minutes)]))

    def test_many_ways_without_a_ring(self):
        self.assertIsNone(ring_of(free(59, trap(29))))

    def test_frame_stays_and_told_is_the_askers_own(self):
        frame = free(2, [(0, 1, 5), (1, 0, -4)])
        spans, bonds = frame.spans(), frame.bonds()
        told = ring_of(frame)
        wanted = list(told)
        told.append(7)
        told.reverse()
        self.assertEqual(ring_of(frame), wanted)
        self.assertEqual((frame.spans(), frame.bonds()), (spans, bonds))


if __name__ == "__main__":
    unittest.main()
