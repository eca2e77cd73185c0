import unittest

from foldlog.errors import NoMoment, NoReading, NoTable
from foldlog.spans import are_spans
from foldlog.tables import Table
from refusals import ODD_THINGS, THIRTY, a_function, deep_list, refuses
from tablesets import LAST, edges, many_rows, shown

NO_NUMBERS = [thing for thing in ODD_THINGS if isinstance(thing, bool) or not isinstance(thing, int)] + [deep_list()]


class Made(unittest.TestCase):
    def test_rows_as_they_were_handed_in(self):
        for rows in many_rows(1, 50):
            self.assertEqual(Table(list(rows)).rows(), rows)

    def test_neighbours_of_one_shift_stay(self):
        rows = [(0, 3), (5, 3), (9, 3), (LAST, 3)]
        self.assertEqual(Table(rows).rows(), rows)
        self.assertEqual(Table(rows).pieces(), [(0, 4, 3), (5, 8, 3), (9, LAST - 1, 3), (LAST, LAST, 3)])

    def test_one_row_and_21_rows(self):
        self.assertEqual(Table([(0, 5)]).rows(), [(0, 5)])
        self.assertEqual(len(Table([(place, 0) for place in range(21)]).rows()), 21)

    def test_bounds_of_shifts_and_moments(self):
        rows = [(0, -2880), (1, 2880), (LAST, 0)]
        self.assertEqual(Table(rows).rows(), rows)
        for shift in (-2881, 2881, THIRTY, -THIRTY):
            refuses(self, NoTable, "row", 0, Table, [(0, shift)])
            refuses(self, NoTable, "row", 1, Table, [(0, 0), (5, shift)])
        refuses(self, NoTable, "row", 1, Table, [(0, 0), (LAST + 1, 0)])
        refuses(self, NoTable, "row", 1, Table, [(0, 0), (THIRTY, 0)])
        refuses(self, NoTable, "row", 0, Table, [(-1, 0)])

    def test_no_list_or_an_empty_one(self):
        for thing in [thing for thing in ODD_THINGS if not isinstance(thing, list)] + [[], ((0, 0),), {0: (0, 0)}]:
            refuses(self, NoTable, "row", 0, Table, thing)

    def test_more_than_21_ahead_of_what_they_are(self):
        refuses(self, NoTable, "row", 21, Table, [(place, 0) for place in range(22)])
        refuses(self, NoTable, "row", 21, Table, [None] * 22)
        refuses(self, NoTable, "row", 21, Table, [None] * 1000)
        refuses(self, NoTable, "row", 0, Table, [None] * 21)
        refuses(self, NoTable, "row", 20, Table, [(place, 0) for place in range(20)] + [None])

    def test_first_wrong_thing(self):
        wrong = [
            None, True, 0, "", "00", [7, 0], {}, (), (7,), (7, 0, 0), (None, 0), (7, None), (True, 0), (7, True), (7, False), ("7", 0),
            (7, "0"), ([7], 0), (7, [0]), (7, a_function), deep_list(), (7, deep_list()), (7, -2881), (7, 2881), (LAST + 1, 0),
            (5, 0), (4, 0), (0, 0), (-1, 0), (-7, 0),
        ]
        for thing in wrong:
            refuses(self, NoTable, "row", 2, Table, [(0, 0), (5, 1), thing])
            refuses(self, NoTable, "row", 2, Table, [(0, 0), (5, 1), thing, None, (2, 2)])
        for thing in wrong[:-3] + [(1, 0), (LAST, 0), (False, 0), (0, True), (0, None), (0,), [0, 0]]:
            refuses(self, NoTable, "row", 0, Table, [thing])
            refuses(self, NoTable, "row", 0, Table, [thing, (0, 0)])

    def test_the_list_that_was_handed_in_is_the_askers_own(self):
        rows = [(0, 5), (10, 7)]
        table = Table(rows)
        self.assertEqual(rows, [(0, 5), (10, 7)])
        rows.append((20, 9))
        rows[0] = (0, 99)
        self.assertEqual(table.rows(), [(0, 5), (10, 7)])
        self.assertEqual(table.reading(30), 37)
        self.assertEqual(table.reading(0), 5)

    def test_what_is_told_is_the_askers_own(self):
        table = Table([(0, 5), (10, 0)])
        asked = [table.rows, table.pieces, lambda: table.moments(10), lambda: table.moments(-9), lambda: table.moments_between(0, 99)]
        for ask in asked:
            wanted = list(ask())
            ask().append((20, 9))
            ask().clear()
            self.assertEqual(ask(), wanted)
        self.assertEqual(table.reading(30), 30)

    def test_refused_making_leaves_the_list(self):
        rows = [(0, 0), None]
        refuses(self, NoTable, "row", 1, Table, rows)
        self.assertEqual(rows, [(0, 0), None])


class Shown(unittest.TestCase):
    def test_pieces(self):
        self.assertEqual(Table([(0, 7)]).pieces(), [(0, LAST, 7)])
        self.assertEqual(Table([(0, 60), (90, -5)]).pieces(), [(0, 89, 60), (90, LAST, -5)])
        self.assertEqual(Table([(0, 0), (1, 1), (LAST, 2)]).pieces(), [(0, 0, 0), (1, LAST - 1, 1), (LAST, LAST, 2)])

    def test_pieces_lie_end_to_end(self):
        for rows in many_rows(2, 50):
            pieces = Table(rows).pieces()
            self.assertEqual([(low, shift) for low, high, shift in pieces], rows)
            self.assertEqual([high for low, high, shift in pieces], [low - 1 for low, shift in rows[1:]] + [LAST])

    def test_reading_and_shift(self):
        for rows in many_rows(3, 50):
            table = Table(rows)
            for moment in edges(rows):
                self.assertEqual(table.reading(moment), shown(rows, moment))
                self.assertEqual(table.shift_at(moment), shown(rows, moment) - moment)

    def test_first_and_last_moment(self):
        table = Table([(0, -2880), (LAST, 2880)])
        self.assertEqual((table.shift_at(0), table.reading(0)), (-2880, -2880))
        self.assertEqual((table.shift_at(LAST), table.reading(LAST)), (2880, LAST + 2880))
        self.assertEqual(table.reading(LAST - 1), LAST - 2881)

    def test_no_moment(self):
        table = Table([(0, 5)])
        for thing in NO_NUMBERS + [-1, LAST + 1, THIRTY, -THIRTY]:
            refuses(self, NoMoment, "found", thing, table.shift_at, thing)
            refuses(self, NoMoment, "found", thing, table.reading, thing)


class Moments(unittest.TestCase):
    def test_none_one_several(self):
        table = Table([(0, 0), (10, 5), (20, 0)])
        self.assertEqual(table.moments(9), [9])
        self.assertEqual(table.moments(10), [])
        self.assertEqual(table.moments(14), [])
        self.assertEqual(table.moments(15), [10])
        self.assertEqual(table.moments(22), [17, 22])
        self.assertEqual(table.moments(25), [25])

    def test_side_by_side(self):
        table = Table([(0, 1), (5, 0)])
        self.assertEqual(table.moments(5), [4, 5])
        self.assertEqual(Table([(0, 20), (1, 19), (2, 18)]).moments(20), [0, 1, 2])

    def test_one_for_each_row(self):
        table = Table([(place, 20 - place) for place in range(21)])
        self.assertEqual(table.moments(20), list(range(21)))

    def test_by_going_through_all_moments_near(self):
        for rows in many_rows(4, 120):
            if max(abs(shift) for start, shift in rows) > 20:
                continue
            table = Table(rows)
            for reading in list(range(-12, 62)) + list(range(LAST - 60, LAST + 12)):
                near = range(max(0, reading - 25), min(LAST, reading + 25) + 1)
                self.assertEqual(table.moments(reading), [one for one in near if shown(rows, one) == reading])

    def test_edges_of_readings(self):
        table = Table([(0, -2880), (LAST, 2880)])
        self.assertEqual(table.moments(-2880), [0])
        self.assertEqual(table.moments(LAST + 2880), [LAST])
        for reading in (-2881, LAST + 2881, -(10 ** 10), 10 ** 10, LAST, LAST - 2880):
            self.assertEqual(table.moments(reading), [])

    def test_no_reading(self):
        table = Table([(0, 5)])
        for thing in NO_NUMBERS + [-(10 ** 10) - 1, 10 ** 10 + 1, THIRTY, -THIRTY]:
            refuses(self, NoReading, "found", thing, table.moments, thing)


class MomentsBetween(unittest.TestCase):
    def test_put_together_over_pieces(self):
        table = Table([(0, 0), (10, 0), (20, 5), (30, -5)])
        self.assertEqual(table.moments_between(5, 15), [(5, 15)])
        self.assertEqual(table.moments_between(0, 50), [(0, 55)])
        self.assertEqual(table.moments_between(25, 26), [(20, 21), (30, 31)])
        self.assertEqual(table.moments_between(20, 24), [])
        self.assertEqual(Table([(0, 1), (5, 0)]).moments_between(5, 5), [(4, 5)])

    def test_all_readings(self):
        self.assertEqual(Table([(0, 3), (7, -9)]).moments_between(-(10 ** 10), 10 ** 10), [(0, LAST)])

    def test_low_above_high(self):
        table = Table([(0, 0), (10, 5), (20, -5)])
        self.assertEqual(table.moments_between(11, 10), [])
        self.assertEqual(table.moments_between(20, 10), [])
        self.assertEqual(table.moments_between(10 ** 10, -(10 ** 10)), [])

    def test_by_going_through_all_moments_near(self):
        for rows in many_rows(5, 40):
            if max(abs(shift) for start, shift in rows) > 20:
                continue
            table = Table(rows)
            for base in (-10, 0, 5, 17, 30, LAST - 20, LAST - 3, LAST):
                for size in (-2, 0, 1, 7, 30):
                    spans = table.moments_between(base, base + size)
                    near = range(max(0, base - 25), min(LAST, base + size + 25) + 1)
                    wanted = [one for one in near if base <= shown(rows, one) <= base + size]
                    self.assertTrue(are_spans(spans))
                    self.assertEqual([one for low, high in spans for one in range(low, high + 1)], wanted)

    def test_no_reading(self):
        table = Table([(0, 5)])
        for thing in NO_NUMBERS + [-(10 ** 10) - 1, 10 ** 10 + 1, THIRTY, -THIRTY]:
            refuses(self, NoReading, "found", thing, table.moments_between, thing, 0)
            refuses(self, NoReading, "found", thing, table.moments_between, 0, thing)
            refuses(self, NoReading, "found", thing, table.moments_between, thing, None)
            refuses(self, NoReading, "found", None, table.moments_between, None, thing)


if __name__ == "__main__":
    unittest.main()
