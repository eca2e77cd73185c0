import unittest

from foldlog.entries import At, Read
from foldlog.frames import Frame, frame_of
from foldlog.logs import Log
from foldlog.tables import Table
from logsets import LAST, a_log, free_log

MOST = 10 ** 15 - 1


class Made(unittest.TestCase):
    def test_tells_both_lists(self):
        spans = [[(-9, -3), (0, 5)], [], [(7, 7)]]
        bonds = [(0, 1, 5), (2, 2, -3), (1, 0, 0), (0, 1, 5)]
        frame = Frame(spans, bonds)
        self.assertEqual((frame.spans(), frame.bonds()), (spans, bonds))

    def test_nothing(self):
        frame = Frame([], [])
        self.assertEqual((frame.spans(), frame.bonds()), ([], []))

    def test_bounds(self):
        spans = [[(-MOST, -MOST), (0, MOST)]] * 60
        bonds = [(59, 0, MOST), (0, 59, -MOST)] * 50 + [(1, 1, 0)]
        frame = Frame(spans, bonds)
        self.assertEqual((frame.spans(), frame.bonds()), (spans, bonds))

    def test_handed_in_is_copied(self):
        inner = [(0, 5)]
        spans, bonds = [inner, inner], [(0, 1, 5)]
        frame = Frame(spans, bonds)
        self.assertEqual((spans, bonds), ([[(0, 5)], [(0, 5)]], [(0, 1, 5)]))
        inner.append((9, 9))
        spans.append([])
        bonds.append((1, 1, 1))
        self.assertEqual((frame.spans(), frame.bonds()), ([[(0, 5)], [(0, 5)]], [(0, 1, 5)]))

    def test_told_is_the_askers_own(self):
        frame = Frame([[(0, 5)], [(7, 7)]], [(0, 1, 5)])
        frame.spans()[0].append((9, 9))
        frame.spans()[1].clear()
        frame.spans().clear()
        frame.bonds().clear()
        self.assertEqual((frame.spans(), frame.bonds()), ([[(0, 5)], [(7, 7)]], [(0, 1, 5)]))


class OfALog(unittest.TestCase):
    def test_in_the_order_of_the_log(self):
        log = a_log()
        frame = frame_of(log)
        names = log.names()
        self.assertIs(type(frame), Frame)
        self.assertEqual(frame.spans(), [log.spans(name) for name in names])
        told = [(names[later], names[earlier], minutes) for later, earlier, minutes in frame.bonds()]
        self.assertEqual(told, log.bonds())
        self.assertEqual(frame.bonds(), [(1, 2, 3), (0, 4, -5), (4, 3, 0), (5, 2, -1), (0, 0, 0)])

    def test_order_is_not_that_of_names(self):
        log = Log()
        for name, moment in (("z", 3), ("a", 9), ("m", 5)):
            log.put(At(name, moment))
        log.bind("a", "z", 1)
        log.bind("m", "a", 2)
        self.assertEqual(frame_of(log).spans(), [[(3, 3)], [(9, 9)], [(5, 5)]])
        self.assertEqual(frame_of(log).bonds(), [(1, 0, 1), (2, 1, 2)])

    def test_without_entries(self):
        frame = frame_of(Log())
        self.assertEqual((frame.spans(), frame.bonds()), ([], []))

    def test_entries_without_moments_stay(self):
        log = Log()
        log.clock("here", Table([(0, 60)]))
        log.put(Read("a", "here", 0))
        log.put(At("b", 4))
        self.assertEqual(frame_of(log).spans(), [[], [(4, 4)]])

    def test_full_log(self):
        bonds = [(number % 60, (number * 7) % 60, number - 50) for number in range(100)]
        frame = frame_of(free_log(60, bonds))
        self.assertEqual((frame.spans(), frame.bonds()), ([[(0, LAST)]] * 60, bonds))

    def test_what_is_done_later_changes_nothing(self):
        log = a_log()
        frame = frame_of(log)
        spans, bonds = frame.spans(), frame.bonds()
        log.clock("fold", Table([(0, 1)]))
        log.unbind(0)
        log.drop("read")
        log.put(At("more", 3))
        log.bind("more", "any", 3)
        self.assertEqual((frame.spans(), frame.bonds()), (spans, bonds))
        self.assertNotEqual(frame_of(log).bonds(), bonds)

    def test_what_is_done_to_the_told_changes_no_log(self):
        log = a_log()
        frame = frame_of(log)
        wanted = (frame.spans(), frame.bonds(), log.bonds())
        frame.spans()[0].clear()
        frame.bonds().clear()
        again = frame_of(log)
        self.assertEqual((again.spans(), again.bonds(), log.bonds()), wanted)


if __name__ == "__main__":
    unittest.main()
