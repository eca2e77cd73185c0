import unittest

from foldlog.folds import counted, repeated, skipped
from foldlog.spans import are_spans
from foldlog.tables import Table
from tablesets import LAST, many_rows


def how_often(rows, reading):
    # Moments at which the reading is shown, row by row.
    ends = [start - 1 for start, shift in rows[1:]] + [LAST]
    return sum(start <= reading - shift <= end for (start, shift), end in zip(rows, ends))


def near(rows):
    # Readings at which the count may change, and their neighbours.
    ends = [start - 1 for start, shift in rows[1:]] + [LAST]
    changes = [start + shift for start, shift in rows] + [end + row[1] for row, end in zip(rows, ends)]
    return sorted({change + step for change in changes for step in (-2, -1, 0, 1, 2)})


class Counted(unittest.TestCase):
    def test_ordinary(self):
        self.assertEqual(counted(Table([(0, 7)])), [(7, LAST + 7, 1)])
        self.assertEqual(counted(Table([(0, 0), (10, 5)])), [(0, 9, 1), (10, 14, 0), (15, LAST + 5, 1)])
        self.assertEqual(counted(Table([(0, 0), (10, -5)])), [(0, 4, 1), (5, 9, 2), (10, LAST - 5, 1)])
        self.assertEqual(counted(Table([(0, 0), (10, -30)])), [(-20, -1, 1), (0, 9, 2), (10, LAST - 30, 1)])
        self.assertEqual(counted(Table([(0, 0), (LAST, -3)])), [(0, LAST - 4, 1), (LAST - 3, LAST - 3, 2), (LAST - 2, LAST - 1, 1)])
        self.assertEqual(counted(Table([(0, 0), (LAST, 3)])), [(0, LAST - 1, 1), (LAST, LAST + 2, 0), (LAST + 3, LAST + 3, 1)])

    def test_neighbours_of_one_shift(self):
        self.assertEqual(counted(Table([(0, 4), (5, 4), (9, 4)])), [(4, LAST + 4, 1)])

    def test_neighbours_of_one_many_are_put_together(self):
        # One piece ends where another one begins, both of them above a third one.
        self.assertEqual(counted(Table([(0, 100), (10, 100), (20, -20)])),
                         [(0, 99, 1), (100, 119, 2), (120, LAST - 20, 1)])

    def test_shown_at_each_row(self):
        told = counted(Table([(place, 20 - place) for place in range(21)]))
        self.assertEqual(told, [(20, 20, 21), (21, LAST, 1)])

    def test_many_tables(self):
        for rows in many_rows(14, 200, 12, 30):
            table = Table(rows)
            told = counted(table)
            self.assertEqual(table.rows(), rows)
            for one, other in zip(told, told[1:]):
                self.assertEqual(other[0], one[1] + 1)
                self.assertNotEqual(one[2], other[2])
            for low, high, many in told:
                self.assertLessEqual(low, high)
            for reading in near(rows):
                many = [many for low, high, many in told if low <= reading <= high]
                self.assertEqual(many or [0], [how_often(rows, reading)])
                self.assertEqual(len(table.moments(reading)), how_often(rows, reading))
            self.assertEqual(sum((high - low + 1) * many for low, high, many in told), LAST + 1)
            self.assertGreater(told[0][2], 0)
            self.assertGreater(told[-1][2], 0)

    def test_told_is_the_askers_own(self):
        table = Table([(0, 0), (10, 5), (30, 0)])
        for ask in (counted, skipped, repeated):
            wanted = list(ask(table))
            ask(table).append((0, 0, 0))
            ask(table).clear()
            self.assertEqual(ask(table), wanted)


class SkippedAndRepeated(unittest.TestCase):
    def test_ordinary(self):
        table = Table([(0, 0), (10, 5), (30, 0)])
        self.assertEqual(skipped(table), [(10, 14)])
        self.assertEqual(repeated(table), [(30, 34)])
        self.assertEqual(skipped(Table([(0, 7)])), [])
        self.assertEqual(repeated(Table([(0, 7)])), [])
        self.assertEqual(skipped(Table([(0, 0), (LAST, 1)])), [(LAST, LAST)])
        self.assertEqual(repeated(Table([(0, 0), (LAST, -1)])), [(LAST - 1, LAST - 1)])

    def test_repeated_ones_of_unlike_many_are_put_together(self):
        table = Table([(0, 0), (10, -5), (12, -7)])
        self.assertEqual([many for low, high, many in counted(table)], [1, 3, 2, 1])
        self.assertEqual(repeated(table), [(5, 9)])

    def test_many_tables(self):
        for rows in many_rows(15, 200, 12, 30):
            table = Table(rows)
            told = counted(table)
            none, several = skipped(table), repeated(table)
            self.assertTrue(are_spans(none))
            self.assertTrue(are_spans(several))
            self.assertEqual(table.rows(), rows)
            for reading in near(rows):
                inside = told[0][0] <= reading <= told[-1][1]
                many = how_often(rows, reading)
                self.assertIs(any(low <= reading <= high for low, high in none), inside and many == 0)
                self.assertIs(any(low <= reading <= high for low, high in several), many > 1)


if __name__ == "__main__":
    unittest.main()
