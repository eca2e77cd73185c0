import unittest

from foldlog.entries import Read, Sifted, Within
from foldlog.sifting import daily, on_days, opposite
from foldlog.tables import Table
from logsets import LAST, spans_by_hand
from refusals import THIRTY

MOMENTS = sorted(set(list(range(0, 6000, 7)) + [day * 1440 + more for day in range(5) for more in range(-3, 4) if day or more >= 0]
                     + [LAST - 1, LAST]))


def day_of(moment):
    # Counted by going from day to day.
    day = 0
    while moment >= (day + 1) * 1440:
        day += 1
    return day


class OnDays(unittest.TestCase):
    def test_small_days(self):
        for low in range(-2, 5):
            for high in range(-2, 5):
                keeps = on_days(low, high)
                for moment in MOMENTS[:-2]:
                    self.assertIs(keeps(moment), low <= day_of(moment) <= high, (low, high, moment))

    def test_edges_of_a_day(self):
        self.assertEqual([on_days(0, 0)(moment) for moment in (0, 1439, 1440)], [True, True, False])
        self.assertEqual([on_days(1, 1)(moment) for moment in (1439, 1440, 2879, 2880)], [False, True, True, False])

    def test_low_above_high(self):
        for moment in MOMENTS:
            self.assertIs(on_days(2, 1)(moment), False)
            self.assertIs(on_days(THIRTY, -THIRTY)(moment), False)

    def test_large_days(self):
        for moment in MOMENTS:
            self.assertIs(on_days(-THIRTY, THIRTY)(moment), True)
        # The last moment is the minute 640 of its day.
        self.assertEqual([on_days(694444, 694444)(moment) for moment in (LAST, LAST - 640, LAST - 641)], [True, True, False])


class Daily(unittest.TestCase):
    def test_edges(self):
        for low in (0, 1, 2, 700, 1437, 1438, 1439):
            for high in (0, 1, 2, 700, 1437, 1438, 1439):
                keeps = daily(low, high)
                for moment in MOMENTS[:-2]:
                    minute = moment - 1440 * day_of(moment)
                    wanted = low <= minute <= high if low <= high else minute >= low or minute <= high
                    self.assertIs(keeps(moment), wanted, (low, high, moment))

    def test_low_above_high_by_hand(self):
        keeps = daily(1438, 1)
        told = [moment for moment in range(2881) if keeps(moment)]
        self.assertEqual(told, [0, 1, 1438, 1439, 1440, 1441, 2878, 2879, 2880])

    def test_low_is_high(self):
        self.assertEqual([moment for moment in range(3000) if daily(5, 5)(moment)], [5, 1445, 2885])

    def test_all_minutes(self):
        for keeps in (daily(0, 1439), daily(1, 0), daily(1439, 1438)):
            self.assertTrue(all(keeps(moment) is True for moment in MOMENTS))


class Opposite(unittest.TestCase):
    def test_just_those_that_are_not_kept(self):
        for keeps in (on_days(1, 2), on_days(2, 1), daily(5, 700), daily(700, 5), lambda moment: moment % 3 == 0):
            for moment in MOMENTS:
                self.assertIs(opposite(keeps)(moment), not keeps(moment))
                self.assertIs(opposite(opposite(keeps))(moment), keeps(moment))


class Together(unittest.TestCase):
    def test_sifted_by_days(self):
        part = Within("x", 1000, 1999)
        self.assertEqual(Sifted("a", part, on_days(0, 0)).spans({}), [(1000, 1439)])
        self.assertEqual(Sifted("a", part, on_days(1, 9)).spans({}), [(1440, 1999)])
        self.assertEqual(Sifted("a", part, opposite(on_days(1, 9))).spans({}), [(1000, 1439)])
        self.assertEqual(Sifted("a", part, on_days(1, 0)).spans({}), [])

    def test_sifted_by_minutes(self):
        part = Within("x", 1000, 1999)
        self.assertEqual(Sifted("a", part, daily(1430, 10)).spans({}), [(1430, 1450)])
        self.assertEqual(Sifted("a", part, daily(10, 1430)).spans({}), [(1000, 1430), (1450, 1999)])
        self.assertEqual(Sifted("a", part, opposite(daily(1430, 10))).spans({}), [(1000, 1429), (1451, 1999)])

    def test_sifted_of_a_read(self):
        tables = {"here": Table([(0, 0), (1440, -60)])}
        read = Read("x", "here", 1400)
        self.assertEqual(read.spans(tables), [(1400, 1400), (1460, 1460)])
        self.assertEqual(Sifted("a", read, on_days(1, 1)).spans(tables), [(1460, 1460)])
        self.assertEqual(Sifted("a", read, opposite(on_days(1, 1))).spans(tables), [(1400, 1400)])

    def test_every_other_moment(self):
        told = Sifted("a", Within("x", 0, 99), opposite(lambda moment: moment % 2 == 0)).spans({})
        self.assertEqual(told, spans_by_hand(range(1, 100, 2)))


if __name__ == "__main__":
    unittest.main()
