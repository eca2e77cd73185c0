import random
import unittest

from foldlog.behind import by_gaps, gaps, led, put_on, spliced
from foldlog.errors import Beyond, NoMinutes, NoMoment, NoReading, NoTable, TooMany
from foldlog.tables import Table
from refusals import ODD_THINGS, THIRTY, a_function, deep_list, refuses
from tablesets import LAST, edges, is_shortest, long_rows, many_rows, shown

NO_NUMBERS = [thing for thing in ODD_THINGS if isinstance(thing, bool) or not isinstance(thing, int)] + [deep_list()]
NO_MOMENTS = NO_NUMBERS + [-1, LAST + 1, THIRTY, -THIRTY]


class Spliced(unittest.TestCase):
    def check(self, one, other, moment):
        first, second = Table(one), Table(other)
        told = spliced(first, second, moment)
        self.assertIs(type(told), Table)
        self.assertTrue(is_shortest(told.rows()))
        for asked in edges(one, other, [(moment, 0)]):
            self.assertEqual(told.reading(asked), shown(one if asked < moment else other, asked))
        self.assertEqual((first.rows(), second.rows()), (one, other))

    def test_ordinary(self):
        one = Table([(0, 1), (10, 2), (20, 3)])
        other = Table([(0, 4), (15, 5), (30, 6)])
        self.assertEqual(spliced(one, other, 15).rows(), [(0, 1), (10, 2), (15, 5), (30, 6)])
        self.assertEqual(spliced(one, other, 12).rows(), [(0, 1), (10, 2), (12, 4), (15, 5), (30, 6)])
        self.assertEqual(spliced(one, other, 10).rows(), [(0, 1), (10, 4), (15, 5), (30, 6)])
        self.assertEqual(spliced(one, other, 0).rows(), [(0, 4), (15, 5), (30, 6)])
        self.assertEqual(spliced(one, other, LAST).rows(), [(0, 1), (10, 2), (20, 3), (LAST, 6)])

    def test_what_is_told_is_the_shortest(self):
        one = Table([(0, 1), (5, 1), (10, 2)])
        self.assertEqual(spliced(one, Table([(0, 1), (20, 1), (30, 3)]), 7).rows(), [(0, 1), (30, 3)])
        self.assertEqual(spliced(one, one, 7).rows(), [(0, 1), (10, 2)])

    def test_every_two(self):
        chance = random.Random(10)
        lists = many_rows(10, 20)
        lists = [rows for rows in lists if len(rows) < 11]
        for one in lists:
            for other in lists:
                for moment in (0, 1, chance.randint(2, 40), LAST - 1, LAST):
                    self.check(one, other, moment)

    def test_too_many(self):
        first, second = Table(long_rows(21)), Table(long_rows(21, 1000))
        self.assertEqual(spliced(first, second, 5).rows(), second.rows())
        for moment, many in ((195, 41), (1005, 41), (1015, 41), (1025, 39), (1105, 31)):
            refuses(self, TooMany, "many", many, spliced, first, second, moment)

    def test_21_and_22_rows_told(self):
        first = Table(long_rows(11))
        self.assertEqual(len(spliced(first, Table(long_rows(11, 1000)), 1000).rows()), 21)
        refuses(self, TooMany, "many", 22, spliced, first, Table(long_rows(12, 1000)), 1000)
        # 22 rows of which two have one shift are 21.
        self.assertEqual(len(spliced(Table(long_rows(12)), Table([(0, 1)] + long_rows(11, 1000)[1:]), 500).rows()), 21)

    def test_refused(self):
        one = Table([(0, 1)])
        for thing in NO_MOMENTS:
            refuses(self, NoMoment, "found", thing, spliced, one, one, thing)
        first, second = Table(long_rows(21)), Table(long_rows(21, 1000))
        refuses(self, NoMoment, "found", -1, spliced, first, second, -1)
        refuses(self, NoMoment, "found", None, spliced, first, second, None)


class PutOn(unittest.TestCase):
    def test_ordinary(self):
        table = Table([(0, 1), (10, 2), (20, 3)])
        self.assertEqual(put_on(table, 15, 60).rows(), [(0, 1), (10, 2), (15, 62), (20, 63)])
        self.assertEqual(put_on(table, 15, -60).rows(), [(0, 1), (10, 2), (15, -58), (20, -57)])
        self.assertEqual(put_on(table, 0, 5).rows(), [(0, 6), (10, 7), (20, 8)])
        self.assertEqual(put_on(table, 10, 5).rows(), [(0, 1), (10, 7), (20, 8)])
        self.assertEqual(put_on(table, LAST, 5).rows(), [(0, 1), (10, 2), (20, 3), (LAST, 8)])
        self.assertEqual(put_on(table, 15, 0).rows(), [(0, 1), (10, 2), (20, 3)])
        self.assertEqual(table.rows(), [(0, 1), (10, 2), (20, 3)])

    def test_what_is_told_is_the_shortest(self):
        self.assertEqual(put_on(Table([(0, 1), (10, 2), (20, 2)]), 10, -1).rows(), [(0, 1)])
        self.assertEqual(put_on(Table([(0, 1), (5, 1)]), 7, 0).rows(), [(0, 1)])
        self.assertEqual(put_on(Table([(0, 1), (5, 1)]), 0, 3).rows(), [(0, 4)])

    def test_shows_the_same_ahead_and_more_behind(self):
        chance = random.Random(11)
        for rows in many_rows(11, 60):
            if max(abs(shift) for start, shift in rows) > 100 or len(rows) > 20:
                continue
            for moment in (0, 1, chance.randint(2, 40), LAST - 1, LAST):
                minutes = chance.choice([-2800, -60, -1, 0, 1, 60, 2800])
                told = put_on(Table(rows), moment, minutes)
                self.assertIs(type(told), Table)
                self.assertTrue(is_shortest(told.rows()))
                for asked in edges(rows, [(moment, 0)]):
                    self.assertEqual(told.reading(asked), shown(rows, asked) + (minutes if asked >= moment else 0))

    def test_widest_minutes(self):
        self.assertEqual(put_on(Table([(0, -2880)]), 5, 5760).rows(), [(0, -2880), (5, 2880)])
        self.assertEqual(put_on(Table([(0, 2880)]), 5, -5760).rows(), [(0, 2880), (5, -2880)])
        self.assertEqual(put_on(Table([(0, -2880)]), 0, 5760).rows(), [(0, 2880)])

    def test_beyond(self):
        refuses(self, Beyond, "row", 0, put_on, Table([(0, 2880)]), 0, 1)
        refuses(self, Beyond, "row", 0, put_on, Table([(0, -2880)]), 0, -1)
        refuses(self, Beyond, "row", 1, put_on, Table([(0, 2880)]), 5, 1)
        refuses(self, Beyond, "row", 1, put_on, Table([(0, -2880)]), 5, -1)
        refuses(self, Beyond, "row", 1, put_on, Table([(0, 0), (LAST, 2880)]), LAST, 1)
        refuses(self, Beyond, "row", 3, put_on, Table([(0, 0), (5, 1), (9, 2880), (12, 2880)]), 7, 1)
        self.assertEqual(put_on(Table([(0, 2879)]), 5, 1).rows(), [(0, 2879), (5, 2880)])
        self.assertEqual(put_on(Table([(0, -2879)]), 5, -1).rows(), [(0, -2879), (5, -2880)])

    def test_beyond_counts_in_the_shortest_list(self):
        refuses(self, Beyond, "row", 1, put_on, Table([(0, 0), (5, 0), (9, 0), (12, 2880)]), 12, 1)
        refuses(self, Beyond, "row", 1, put_on, Table([(0, 1), (5, 0), (9, 2880)]), 5, 1)

    def test_too_many(self):
        table = Table(long_rows(21))
        refuses(self, TooMany, "many", 22, put_on, table, 15, 7)
        refuses(self, TooMany, "many", 22, put_on, table, LAST, 7)
        self.assertEqual(len(put_on(table, 20, 7).rows()), 21)
        self.assertEqual(len(put_on(Table(long_rows(20)), 15, 7).rows()), 21)
        self.assertEqual(len(put_on(table, 20, 1).rows()), 20)
        same = Table([(0, 0)] + [(10 * place, place // 2 % 2) for place in range(1, 21)])
        self.assertEqual(len(same.rows()), 21)
        self.assertEqual(len(put_on(same, 15, 7).rows()), 12)

    def test_order_of_refusals(self):
        table = Table([(0, 2880)] + long_rows(21)[1:])
        for thing in NO_MOMENTS:
            refuses(self, NoMoment, "found", thing, put_on, table, thing, 9999)
        for thing in NO_NUMBERS + [5761, -5761, THIRTY, -THIRTY]:
            refuses(self, NoMinutes, "found", thing, put_on, table, 0, thing)
        high = Table([(place * 10, 2880 - place % 2) for place in range(21)])
        refuses(self, Beyond, "row", 2, put_on, high, 15, 3)
        refuses(self, TooMany, "many", 22, put_on, high, 15, -3)
        low = Table(long_rows(20) + [(LAST, 2880)])
        refuses(self, Beyond, "row", 21, put_on, low, 15, 3)


class Gaps(unittest.TestCase):
    def test_ordinary(self):
        one = Table([(0, 1), (10, 2), (20, 3)])
        other = Table([(0, 4), (15, 5), (20, 6)])
        self.assertEqual(gaps(one, other), [(0, 3), (10, 2), (15, 3)])
        self.assertEqual(gaps(other, one), [(0, -3), (10, -2), (15, -3)])
        self.assertEqual(gaps(one, one), [(0, 0)])
        self.assertEqual(gaps(Table([(0, 2880)]), Table([(0, 2880), (LAST, -2880)])), [(0, 0), (LAST, -5760)])

    def test_41_gaps(self):
        one = Table([(20 * place, place % 2) for place in range(21)])
        other = Table([(0, 5)] + [(20 * place - 10, 5 + place % 2 * 10) for place in range(1, 21)])
        told = gaps(one, other)
        self.assertEqual(len(told), 41)
        self.assertEqual(by_gaps(one, told).rows(), other.rows())

    def test_every_two(self):
        lists = many_rows(12, 25)
        for one in lists:
            for other in lists:
                first, second = Table(one), Table(other)
                told = gaps(first, second)
                self.assertTrue(is_shortest(told))
                self.assertEqual(told[0][0], 0)
                for asked in edges(one, other):
                    self.assertEqual(shown(told, asked) - asked, shown(other, asked) - shown(one, asked))
                self.assertEqual((first.rows(), second.rows()), (one, other))
                back = by_gaps(first, told)
                for asked in edges(one, other):
                    self.assertEqual(back.reading(asked), shown(other, asked))
                self.assertTrue(is_shortest(back.rows()))

    def test_told_is_the_askers_own(self):
        one, other = Table([(0, 1)]), Table([(0, 4)])
        gaps(one, other).append((9, 9))
        self.assertEqual(gaps(one, other), [(0, 3)])
        gaps(one, one).clear()
        self.assertEqual(one.rows(), [(0, 1)])


class ByGaps(unittest.TestCase):
    def test_lists_that_are_not_the_shortest(self):
        table = Table([(0, 1), (10, 2)])
        self.assertEqual(by_gaps(table, [(0, 5), (3, 5), (12, 5)]).rows(), [(0, 6), (10, 7)])
        self.assertEqual(by_gaps(table, [(0, 5), (10, 4)]).rows(), [(0, 6)])
        self.assertEqual(by_gaps(table, [(place, 0) for place in range(41)]).rows(), [(0, 1), (10, 2)])
        self.assertEqual(by_gaps(Table([(0, 1), (4, 1)]), [(0, 0)]).rows(), [(0, 1)])

    def test_the_list_that_was_handed_in_stays(self):
        rows = [(0, 5), (3, 5)]
        table = Table([(0, 1)])
        told = by_gaps(table, rows)
        self.assertEqual(rows, [(0, 5), (3, 5)])
        rows.append((9, 9))
        self.assertEqual(told.rows(), [(0, 6)])
        self.assertEqual(table.rows(), [(0, 1)])

    def test_widest_gaps(self):
        self.assertEqual(by_gaps(Table([(0, -2880)]), [(0, 5760)]).rows(), [(0, 2880)])
        self.assertEqual(by_gaps(Table([(0, 2880)]), [(0, -5760), (LAST, 0)]).rows(), [(0, -2880), (LAST, 2880)])

    def test_no_list_or_an_empty_one(self):
        table = Table([(0, 2880)])
        for thing in [thing for thing in ODD_THINGS if not isinstance(thing, list)] + [[], ((0, 0),)]:
            refuses(self, NoTable, "row", 0, by_gaps, table, thing)

    def test_more_than_41(self):
        table = Table([(0, 2880)])
        refuses(self, NoTable, "row", 41, by_gaps, table, [(place, 0) for place in range(42)])
        refuses(self, NoTable, "row", 41, by_gaps, table, [None] * 42)
        refuses(self, NoTable, "row", 0, by_gaps, table, [None] * 41)
        refuses(self, NoTable, "row", 40, by_gaps, table, [(place, 1) for place in range(40)] + [None])

    def test_first_wrong_thing(self):
        table = Table([(0, 2880)])
        wrong = [
            None, True, 7, "", [7, 0], {}, (), (7,), (7, 0, 0), (None, 0), (7, None), (True, 0), (7, True), (7, False), ("7", 0), (7, "0"),
            (7, a_function), deep_list(), (7, deep_list()), (7, -5761), (7, 5761), (7, THIRTY), (LAST + 1, 0), (5, 0), (4, 0), (0, 0),
            (-7, 0),
        ]
        for thing in wrong:
            refuses(self, NoTable, "row", 2, by_gaps, table, [(0, 1), (5, 1), thing])
            refuses(self, NoTable, "row", 2, by_gaps, table, [(0, 1), (5, 1), thing, None, (2, 2)])
        for thing in wrong[:-2] + [(1, 0), (LAST, 0), (False, 0), (0, True), (-1, 0)]:
            refuses(self, NoTable, "row", 0, by_gaps, table, [thing])

    def test_beyond_and_too_many(self):
        table = Table(long_rows(21))
        refuses(self, Beyond, "row", 0, by_gaps, table, [(0, 2881)])
        refuses(self, Beyond, "row", 1, by_gaps, table, [(0, 2880)])
        refuses(self, Beyond, "row", 0, by_gaps, table, [(0, -2881)])
        refuses(self, Beyond, "row", 2, by_gaps, table, [(0, 0), (15, 3000)])
        refuses(self, Beyond, "row", 22, by_gaps, table, [(0, 0), (15, 3), (LAST, 5760)])
        refuses(self, TooMany, "many", 22, by_gaps, table, [(0, 0), (15, 3)])
        refuses(self, TooMany, "many", 41, by_gaps, Table([(0, 0)]), [(place, place) for place in range(41)])
        refuses(self, TooMany, "many", 22, by_gaps, Table([(0, 0)]), [(place, place) for place in range(22)])
        self.assertEqual(len(by_gaps(Table([(0, 0)]), [(place, place) for place in range(21)]).rows()), 21)
        refuses(self, TooMany, "many", 61, by_gaps, table, [(0, 0)] + [(5 * place + 1, 10 * place) for place in range(1, 41)])

    def test_beyond_counts_in_the_shortest_list(self):
        refuses(self, Beyond, "row", 1, by_gaps, Table([(0, 0), (5, 0), (9, 0)]), [(0, 0), (3, 0), (12, 2881)])


class Led(unittest.TestCase):
    def test_ordinary(self):
        one = Table([(0, 0), (10, 5), (20, 0)])
        other = Table([(0, 60), (18, 0)])
        self.assertEqual(led(one, other, 22), [(17, 77), (22, 22)])
        self.assertEqual(led(one, other, 12), [])
        self.assertEqual(led(one, other, 3), [(3, 63)])
        self.assertEqual(led(one, one, 22), [(17, 22), (22, 22)])
        self.assertEqual((one.rows(), other.rows()), ([(0, 0), (10, 5), (20, 0)], [(0, 60), (18, 0)]))

    def test_every_two(self):
        lists = many_rows(13, 15)
        for one in lists:
            for other in lists:
                for reading in (-3, 0, 7, 15, 30, LAST - 4, LAST, LAST + 3):
                    moments = Table(one).moments(reading)
                    self.assertEqual(led(Table(one), Table(other), reading), [(asked, shown(other, asked)) for asked in moments])

    def test_readings_that_no_clock_shows(self):
        table = Table([(0, 0)])
        for reading in (-(10 ** 10), -2881, LAST + 2881, 10 ** 10):
            self.assertEqual(led(table, table, reading), [])

    def test_no_reading(self):
        table = Table([(0, 0)])
        for thing in NO_NUMBERS + [-(10 ** 10) - 1, 10 ** 10 + 1, THIRTY, -THIRTY]:
            refuses(self, NoReading, "found", thing, led, table, table, thing)

    def test_told_is_the_askers_own(self):
        table = Table([(0, 0)])
        led(table, table, 5).clear()
        self.assertEqual(led(table, table, 5), [(5, 5)])


if __name__ == "__main__":
    unittest.main()
