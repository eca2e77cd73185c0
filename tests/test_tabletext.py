import unittest

from foldlog.errors import NoTable, NoText
from foldlog.tables import Table
from foldlog.tabletext import read_table, table_text
from refusals import ODD_THINGS, deep_list, refuses
from tablesets import LAST, many_rows

GOOD = "0.00.00 +1.00; 0.01.30 -0.05"


class Written(unittest.TestCase):
    def test_examples(self):
        examples = {
            GOOD: [(0, 60), (90, -5)], "0.00.00 +0.00": [(0, 0)],
            "0.00.00 -48.00; 694444.10.40 +48.00": [(0, -2880), (LAST, 2880)],
            "0.00.00 +0.00; 0.00.01 +0.00; 1.00.00 -0.01": [(0, 0), (1, 0), (1440, -1)],
        }
        for text, rows in examples.items():
            table = Table(rows)
            self.assertEqual(table_text(table), text)
            self.assertEqual(read_table(text).rows(), rows)
            self.assertEqual(table.rows(), rows)

    def test_written_and_read_again(self):
        for rows in many_rows(6, 60, 21, 2880):
            table = read_table(table_text(Table(rows)))
            self.assertIs(type(table), Table)
            self.assertEqual(table.rows(), rows)

    def test_21_rows(self):
        rows = [(place * 1440, place) for place in range(21)]
        self.assertEqual(read_table(table_text(Table(rows))).rows(), rows)


class Read(unittest.TestCase):
    def test_no_text(self):
        for thing in [thing for thing in ODD_THINGS if not isinstance(thing, str)] + [deep_list()]:
            refuses(self, NoText, "at", 0, read_table, thing)

    def test_wrong_parts(self):
        parts = [
            "", " ", "0.00.00", "+0.00", "0.00.05+0.00", "0.00.05  +0.00", " 0.00.05 +0.00", "0.00.05 +0.00 ", "0.00.05 +0.00\n",
            "\n0.00.05 +0.00", "0.00.05\n+0.00", "0.00.05 +0.00 +0.00", "00.00.05 +0.00", "0.0.05 +0.00", "0.24.00 +0.00",
            "-1.00.00 +0.00", "-1.23.59 +0.00", "694444.10.41 +0.00", "0.00.05 -0.00", "0.00.05 +48.01", "0.00.05 0.00", "0.00.05 +00.00", "+0.00 0.00.05",
            "a", "0.00.05 +0.00;", ";0.00.05 +0.00", "0.00.05 +0.00,", "0.00.05 +0.00;0.00.06 +0.00", ";", "0.00.05;+0.00", "9" * 39000,
        ]
        for part in parts:
            refuses(self, NoText, "at", 0, read_table, part)
            refuses(self, NoText, "at", 0, read_table, part + "; a")
            refuses(self, NoText, "at", 2, read_table, GOOD + "; " + part)
            refuses(self, NoText, "at", 2, read_table, GOOD + "; " + part + "; a")

    def test_parting(self):
        refuses(self, NoText, "at", 1, read_table, "0.00.00 +1.00; ")
        refuses(self, NoText, "at", 0, read_table, "; 0.00.00 +1.00")
        refuses(self, NoText, "at", 1, read_table, "0.00.00 +1.00; ; 0.01.30 -0.05")
        refuses(self, NoText, "at", 1, read_table, "0.00.00 +1.00;  0.01.30 -0.05")
        refuses(self, NoText, "at", 0, read_table, "0.00.00 +1.00 ; 0.01.30 -0.05")
        refuses(self, NoText, "at", 0, read_table, "0.00.00 +1.00;0.01.30 -0.05")
        refuses(self, NoText, "at", 0, read_table, "0.00.00 +1.00;\n0.01.30 -0.05")
        refuses(self, NoText, "at", 0, read_table, "; " * 20000)

    def test_rows_that_make_no_table(self):
        refuses(self, NoTable, "row", 0, read_table, "0.00.01 +0.00")
        refuses(self, NoTable, "row", 1, read_table, "0.00.00 +0.00; 0.00.00 +0.00")
        refuses(self, NoTable, "row", 2, read_table, "0.00.00 +0.00; 0.00.09 +0.00; 0.00.08 +0.00; 0.00.07 +0.00")
        refuses(self, NoTable, "row", 21, read_table, "; ".join(["0.00.%02d +0.00" % place for place in range(22)]))
        refuses(self, NoTable, "row", 21, read_table, "; ".join(["0.00.07 +0.00"] * 22))

    def test_wrong_parts_go_ahead_of_wrong_rows(self):
        refuses(self, NoText, "at", 1, read_table, "0.00.01 +0.00; a")
        refuses(self, NoText, "at", 22, read_table, "; ".join(["0.00.07 +0.00"] * 22 + ["a"]))


if __name__ == "__main__":
    unittest.main()
