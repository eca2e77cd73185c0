import unittest

from foldlog.errors import NoMoment
from foldlog.words import LAST, is_minutes, is_moment, is_name, is_reading, is_shift, is_whole, whole_in
from refusals import ODD_THINGS, THIRTY, a_function, deep_list

NO_NUMBERS = [thing for thing in ODD_THINGS if isinstance(thing, bool) or not isinstance(thing, int)]


class Numbers(unittest.TestCase):
    def test_the_last_moment(self):
        self.assertEqual(LAST, 10 ** 9)
        self.assertIs(type(LAST), int)

    def test_whole_from_low_to_high(self):
        for low in range(-3, 4):
            for high in range(-3, 4):
                for number in range(-5, 6):
                    self.assertIs(is_whole(number, low, high), number in range(low, high + 1))

    def test_whole_of_thirty_figures(self):
        self.assertIs(is_whole(THIRTY, -THIRTY, THIRTY), True)
        self.assertIs(is_whole(-THIRTY, -THIRTY, THIRTY), True)
        self.assertIs(is_whole(THIRTY, -THIRTY, THIRTY - 1), False)
        self.assertIs(is_whole(-THIRTY, 1 - THIRTY, THIRTY), False)
        self.assertIs(is_whole(0, THIRTY, -THIRTY), False)

    def test_no_whole_numbers(self):
        for thing in NO_NUMBERS + [deep_list(), NoMoment(1)]:
            self.assertIs(is_whole(thing, -THIRTY, THIRTY), False)

    def test_bounds_of_each_kind(self):
        bounds = [
            (is_moment, 0, 10 ** 9), (is_reading, -(10 ** 10), 10 ** 10), (is_shift, -2880, 2880),
            (is_minutes, -2000000000, 2000000001),
        ]
        for asked, low, high in bounds:
            for number in (low, low + 1, high - 1, high, 0, 1):
                self.assertIs(asked(number), True, (asked, number))
            for number in (low - 1, high + 1, THIRTY, -THIRTY):
                self.assertIs(asked(number), False, (asked, number))

    def test_truths_and_other_things_are_of_no_kind(self):
        for asked in (is_moment, is_reading, is_shift, is_minutes):
            for thing in NO_NUMBERS + [deep_list()]:
                self.assertIs(asked(thing), False, asked)


class Names(unittest.TestCase):
    def test_names(self):
        for name in ("a", "z", "abcdefgh", "zzzzzzzz", "mnopqrst", "uvwxyz", "ijkl"):
            self.assertIs(is_name(name), True, name)

    def test_no_names(self):
        texts = ["", "abcdefghi", "A", "aB", "a1", "a ", " a", "a b", "a\n", "\n", "`", "{", "a_", "-", "a.b", "a" * 40000]
        for thing in texts + [None, True, False, 0, 1, ["a"], ("a",), {"a": "a"}, [], a_function, deep_list()]:
            self.assertIs(is_name(thing), False)

    def test_each_sign_by_itself(self):
        for code in list(range(32, 127)) + [10]:
            self.assertIs(is_name(chr(code)), 97 <= code <= 122, chr(code))
            self.assertIs(is_name("a" + chr(code)), 97 <= code <= 122, chr(code))


class PlainlyWritten(unittest.TestCase):
    def test_every_number_that_is_written(self):
        for number in list(range(-1200, 1201)) + [THIRTY, -THIRTY, 10 ** 29, -(10 ** 29)]:
            told = whole_in(str(number), -THIRTY, THIRTY)
            self.assertIs(type(told), int)
            self.assertEqual(told, number)

    def test_bounds(self):
        for low in range(-12, 13):
            for high in range(-12, 13):
                for number in range(-14, 15):
                    wanted = number if low <= number <= high else None
                    self.assertEqual(whole_in(str(number), low, high), wanted)

    def test_bounds_of_thirty_figures(self):
        self.assertEqual(whole_in(str(THIRTY), THIRTY, THIRTY), THIRTY)
        self.assertEqual(whole_in(str(-THIRTY), -THIRTY, -THIRTY), -THIRTY)
        self.assertIsNone(whole_in(str(THIRTY), -THIRTY, THIRTY - 1))
        self.assertIsNone(whole_in(str(-THIRTY), 1 - THIRTY, THIRTY))
        self.assertIsNone(whole_in(str(THIRTY + 1), -THIRTY, THIRTY))
        self.assertIsNone(whole_in(str(-THIRTY - 1), -THIRTY, THIRTY))
        self.assertIsNone(whole_in("0", THIRTY, -THIRTY))

    def test_not_plainly_written(self):
        texts = [
            "", "-", "--1", "-0", "00", "01", "-01", "-00", "+1", "+0", " 1", "1 ", "1\n", "\n1", "1 2", "1_0", "1.0",
            "1e1", "0x1", "1-", "-1-", "- 1", "a", "1a", "a1", "-a", "1,0", "0 ", " 0", "0\n", "..", "-\n", "/", ":", "1/", "1:",
        ]
        for text in texts:
            self.assertIsNone(whole_in(text, -THIRTY, THIRTY), text)
            self.assertIsNone(whole_in(text, -9, 9), text)

    def test_long_texts(self):
        for text in ("1" * 40000, "-" + "9" * 39999, "0" * 40000, "-" * 40000, " " * 40000, "0" * 39999 + "1"):
            self.assertIsNone(whole_in(text, -THIRTY, THIRTY))

    def test_figures_of_other_scripts(self):
        for text in ("\u0663", "\u00b2", "1\u0663"):
            self.assertIsNone(whole_in(text, -THIRTY, THIRTY))

    def test_no_texts(self):
        for thing in [0, 1, -1, None, True, False, ["1"], ("1",), {"1": 1}, [], (), {}, a_function, deep_list()]:
            self.assertIsNone(whole_in(thing, -THIRTY, THIRTY))


if __name__ == "__main__":
    unittest.main()
