import unittest

from foldlog.clocks import clock_in, clock_text, shift_in, shift_text
from refusals import ODD_THINGS, THIRTY, deep_list

NO_TEXTS = [thing for thing in ODD_THINGS if not isinstance(thing, str)] + [deep_list()]


class ClockTexts(unittest.TestCase):
    def test_examples(self):
        examples = {
            0: "0.00.00", 1501: "1.01.01", -1: "-1.23.59", -1440: "-1.00.00", 59: "0.00.59", 60: "0.01.00",
            1439: "0.23.59", 1440: "1.00.00", -1441: "-2.23.59", -1439: "-1.00.01", 14400: "10.00.00",
            10 ** 9: "694444.10.40", -(10 ** 10): "-6944445.13.20", 10 ** 10: "6944444.10.40",
        }
        for number, text in examples.items():
            self.assertEqual(clock_text(number), text)
            self.assertEqual(clock_in(text, number, number), number)

    def test_written_as_the_division_tells(self):
        for number in list(range(-4400, 4400)) + [THIRTY, -THIRTY, 1 - THIRTY, THIRTY - 1]:
            day, rest = divmod(number, 1440)
            hours, minutes = divmod(rest, 60)
            self.assertEqual(clock_text(number), "%d.%02d.%02d" % (day, hours, minutes))

    def test_read_again(self):
        for number in list(range(-4400, 4400)) + [THIRTY, -THIRTY, 10 ** 9, 10 ** 10, -(10 ** 10)]:
            told = clock_in(clock_text(number), -THIRTY, THIRTY)
            self.assertIs(type(told), int)
            self.assertEqual(told, number)

    def test_bounds(self):
        for number in (-1441, -1440, -1439, -1, 0, 1, 1439, 1440, 1441, THIRTY, -THIRTY):
            text = clock_text(number)
            self.assertEqual(clock_in(text, number, number), number)
            self.assertEqual(clock_in(text, number - 1, number), number)
            self.assertEqual(clock_in(text, number, number + 1), number)
            self.assertIsNone(clock_in(text, number + 1, number + 2))
            self.assertIsNone(clock_in(text, number - 2, number - 1))
            self.assertIsNone(clock_in(text, number + 1, number - 1))
            self.assertIsNone(clock_in(text, THIRTY, -THIRTY))

    def test_first_bound_above_the_second_within_a_day(self):
        for number in range(0, 20):
            self.assertIsNone(clock_in(clock_text(number), 12, 8))

    def test_nearly_clock_texts(self):
        texts = [
            "", ".", "..", "0", "0.0", "0.00", "00.00", "00.01.00", "0.1.00", "0.01.0", "0.24.00", "0.00.60", "0.99.00",
            "0.00.99", "-0.00.01", "-0.00.00", " 0.01.00", "0.01.00 ", "0.01.00\n", "\n0.01.00", "0.01.00.", ".0.01.00",
            "0.01.00.00", "0..00", "0.00.", ".00.00", "+0.01.00", "+1.00.00", "0.001.00", "0.01.000", "01.01.00", "0. 1.00",
            "0.01. 0", "0.-1.00", "0.01.-1", "0.+1.00", "-.01.00", "--1.00.00", "a.01.00", "0.0a.00", "0.00.0a", "0:01:00",
            "0 01 00", "1_0.00.00", "0.1_.00", "0.00.1 ", "0.00.\n1", "-1.24.00", "-01.00.00", "0.00.00 0.00.00",
        ]
        for text in texts:
            self.assertIsNone(clock_in(text, -THIRTY, THIRTY), text)

    def test_every_near_text_by_brute_force(self):
        # What is read must be written by the very text.
        for day in ("0", "1", "-1", "00", "-0", "01"):
            for hours in ("00", "23", "24", "5", "005"):
                for minutes in ("00", "59", "60", "5", "059"):
                    text = day + "." + hours + "." + minutes
                    wanted = [number for number in (-1440, -1381, -60, -1, 0, 59, 1380, 1439, 1440, 1499, 2820, 2879)
                              if clock_text(number) == text]
                    self.assertEqual(clock_in(text, -9999, 9999), wanted[0] if wanted else None, text)

    def test_long_texts(self):
        for text in ("1" * 39994 + ".00.00", "0.00." + "0" * 39995, "0." + "1" * 39995 + ".00", "." * 40000, "9" * 40000):
            self.assertIsNone(clock_in(text, -THIRTY, THIRTY))

    def test_no_texts(self):
        for thing in NO_TEXTS:
            self.assertIsNone(clock_in(thing, -THIRTY, THIRTY))


class ShiftTexts(unittest.TestCase):
    def test_examples(self):
        examples = {
            0: "+0.00", 65: "+1.05", -61: "-1.01", 2880: "+48.00", -2880: "-48.00", 1: "+0.01", -1: "-0.01", 59: "+0.59",
            60: "+1.00", -60: "-1.00", -59: "-0.59", 600: "+10.00", 2879: "+47.59", -2879: "-47.59",
        }
        for shift, text in examples.items():
            self.assertEqual(shift_text(shift), text)
            self.assertEqual(shift_in(text), shift)

    def test_every_shift(self):
        texts = {}
        for shift in range(-2880, 2881):
            text = shift_text(shift)
            sign = "-" if shift < 0 else "+"
            self.assertEqual(text, "%s%d.%02d" % (sign, abs(shift) // 60, abs(shift) % 60))
            told = shift_in(text)
            self.assertIs(type(told), int)
            self.assertEqual(told, shift)
            texts[text] = True
        self.assertEqual(len(texts), 5761)

    def test_no_shift_texts(self):
        texts = [
            "", "+", "-", ".", "+.", "-0.00", "+48.01", "-48.01", "+49.00", "-49.00", "1.00", "+01.00", "-01.00", "+00.00",
            "+1.60", "+1.5", "+1.005", "+1", "+1.", "+.05", "+1.05 ", " +1.05", "+1.05\n", "\n+1.05", "++1.05", "--1.05",
            "+-1.05", "-+1.05", "+ 1.05", "+1. 5", "+1.-5", "+1.05.", "+1.05.00", "+a.05", "+1.0a", "1.05", "01.05", "+1:05",
            "+1..05", "+100.00", "+1_0.00", " 1.05", "a1.05", "0", "+0.60", "-0.60", "0.00", "00.00",
        ]
        for text in texts:
            self.assertIsNone(shift_in(text), text)

    def test_long_texts(self):
        for text in ("+" + "1" * 39999, "+" + "1" * 39996 + ".00", "+1." + "0" * 39997, "-" * 40000):
            self.assertIsNone(shift_in(text))

    def test_no_texts(self):
        for thing in NO_TEXTS:
            self.assertIsNone(shift_in(thing))


if __name__ == "__main__":
    unittest.main()
