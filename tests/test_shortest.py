import unittest

from foldlog.shortest import alike, first_unlike, shortened
from foldlog.tables import Table
from tablesets import LAST, edges, is_shortest, many_rows, shown


class Shortened(unittest.TestCase):
    def test_ordinary(self):
        self.assertEqual(shortened(Table([(0, 3), (5, 3), (9, 4), (12, 3), (20, 3)])).rows(), [(0, 3), (9, 4), (12, 3)])
        self.assertEqual(shortened(Table([(0, 3)])).rows(), [(0, 3)])
        self.assertEqual(shortened(Table([(place, 0) for place in range(21)])).rows(), [(0, 0)])
        self.assertEqual(shortened(Table([(0, 1), (LAST, 1)])).rows(), [(0, 1)])
        self.assertEqual(shortened(Table([(0, 1), (LAST, 2)])).rows(), [(0, 1), (LAST, 2)])

    def test_shows_the_same_and_is_the_shortest(self):
        for rows in many_rows(7, 100, 9, 1):
            table = Table(rows)
            short = shortened(table)
            self.assertIs(type(short), Table)
            self.assertEqual(table.rows(), rows)
            self.assertTrue(is_shortest(short.rows()))
            self.assertEqual(shortened(short).rows(), short.rows())
            for moment in edges(rows):
                self.assertEqual(short.reading(moment), shown(rows, moment))

    def test_one_and_the_same_for_all_that_show_the_same(self):
        lists = many_rows(8, 60, 3, 1)
        for one in lists:
            for other in lists:
                same = all(shown(one, moment) == shown(other, moment) for moment in edges(one, other))
                self.assertEqual(shortened(Table(one)).rows() == shortened(Table(other)).rows(), same)


class Unlike(unittest.TestCase):
    def check(self, one, other):
        first, second = Table(one), Table(other)
        unlike = [moment for moment in edges(one, other) if shown(one, moment) != shown(other, moment)]
        wanted = unlike[0] if unlike else None
        self.assertEqual(first_unlike(first, second), wanted)
        self.assertIs(alike(first, second), wanted is None)
        self.assertEqual((first.rows(), second.rows()), (one, other))

    def test_ordinary(self):
        self.check([(0, 0), (10, 5)], [(0, 0), (12, 5)])
        self.check([(0, 0), (10, 5)], [(0, 0), (5, 0), (10, 5), (11, 5)])
        self.check([(0, 0)], [(0, 1)])
        self.check([(0, 0)], [(0, 0), (LAST, 1)])
        self.check([(0, 0), (LAST, 1)], [(0, 0), (LAST, 1)])
        self.check([(0, 0), (5, 1), (6, 2)], [(0, 0), (5, 2)])
        self.assertEqual(first_unlike(Table([(0, 0), (10, 5)]), Table([(0, 0), (12, 5)])), 10)
        self.assertEqual(first_unlike(Table([(0, 0)]), Table([(0, -1)])), 0)
        self.assertEqual(first_unlike(Table([(0, 0)]), Table([(0, 0), (LAST, 1)])), LAST)

    def test_every_two(self):
        lists = many_rows(9, 40, 4, 1)
        for one in lists:
            for other in lists:
                self.check(one, other)


if __name__ == "__main__":
    unittest.main()
