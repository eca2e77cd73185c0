import unittest

from foldlog.entries import At, Between, Entry, Joint, Read, Sifted, Within
from foldlog.errors import NoEntry, NoMoment, NoName, NoPlace, NoReading, TooMany
from foldlog.logs import Log
from foldlog.spans import are_spans
from foldlog.tables import Table
from logsets import FOLD, LAST, numbers_in, spans_by_hand
from refusals import ODD_THINGS, THIRTY, a_function, deep_list, refuses
from tablesets import many_rows, shown

TABLES = {"fold": Table(FOLD), "even": Table([(0, 60)])}
NO_NUMBERS = [thing for thing in ODD_THINGS if isinstance(thing, bool) or not isinstance(thing, int)] + [deep_list()]
NO_MOMENTS = NO_NUMBERS + [-1, LAST + 1, THIRTY, -THIRTY]
NO_READINGS = NO_NUMBERS + [-(10 ** 10) - 1, 10 ** 10 + 1, THIRTY, -THIRTY]
NO_NAMES = [thing for thing in ODD_THINGS if thing not in ("a", "abc")] + ["abcdefghi", "A", "a1", "a b", "a\n", 0, 7, deep_list()]
WIDEST = 10 ** 10


def always(moment):
    return True


def never(moment):
    return False


def one_of_each():
    return [
        Entry("one"), Within("one", 3, 9), At("one", 4), Between("one", "fold", 9, 22), Read("one", "fold", 20),
        Joint("one", [At("x", 4)]), Sifted("one", At("x", 4), always),
    ]


class Kinds(unittest.TestCase):
    def test_words(self):
        words = ["any", "within", "at", "between", "read", "joint", "sifted"]
        self.assertEqual([entry.word() for entry in one_of_each()], words)

    def test_names(self):
        self.assertEqual([entry.name for entry in one_of_each()], ["one"] * 7)
        self.assertEqual([Entry(name).name for name in ("a", "z", "abcdefgh")], ["a", "z", "abcdefgh"])

    def test_which_is_under_which(self):
        self.assertEqual([kind.__bases__ for kind in (Within, Between, Joint, Sifted)], [(Entry,)] * 4)
        self.assertEqual(At.__bases__, (Within,))
        self.assertEqual(Read.__bases__, (Between,))
        self.assertEqual(Entry.__bases__, (object,))

    def test_fields(self):
        within, at = Within("a", 9, 3), At("a", 7)
        self.assertEqual((within.low, within.high, at.low, at.high), (9, 3, 7, 7))
        between, read = Between("a", "fold", 9, -3), Read("a", "even", -7)
        self.assertEqual((between.place, between.low, between.high), ("fold", 9, -3))
        self.assertEqual((read.place, read.low, read.high), ("even", -7, -7))
        part = At("x", 4)
        self.assertIs(Sifted("a", part, always).part, part)


class Places(unittest.TestCase):
    def test_each_kind(self):
        told = [entry.places() for entry in one_of_each()]
        self.assertEqual(told, [[], [], [], ["fold"], ["fold"], [], []])
        self.assertEqual(Sifted("a", Read("x", "even", 4), always).places(), ["even"])
        self.assertEqual(Sifted("a", Within("x", 4, 5), always).places(), [])

    def test_of_a_joint_one_in_order_and_each_once(self):
        parts = [Read("x", "zoo", 1), Entry("x"), Between("x", "ant", 1, 2), Sifted("x", Read("x", "mid", 1), always),
                 Read("x", "ant", 9), Read("x", "zoo", 1), Read("x", "bee", 1)]
        self.assertEqual(Joint("a", parts).places(), ["zoo", "ant", "mid", "bee"])
        self.assertEqual(Joint("a", [Read("x", "fold", 1), Read("y", "fold", 2)]).places(), ["fold"])

    def test_told_is_the_askers_own(self):
        entries = one_of_each() + [Joint("a", [Read("x", "even", 1)]), Sifted("a", Read("x", "even", 4), always)]
        for entry in entries:
            wanted = list(entry.places())
            entry.places().append("more")
            entry.places().clear()
            self.assertEqual(entry.places(), wanted)


class Spans(unittest.TestCase):
    def test_any(self):
        self.assertEqual(Entry("a").spans({}), [(0, LAST)])
        self.assertEqual(Entry("a").spans(TABLES), [(0, LAST)])

    def test_within_and_at(self):
        self.assertEqual(Within("a", 3, 9).spans({}), [(3, 9)])
        self.assertEqual(Within("a", 9, 9).spans({}), [(9, 9)])
        self.assertEqual(Within("a", 0, LAST).spans({}), [(0, LAST)])
        self.assertEqual(At("a", 0).spans({}), [(0, 0)])
        self.assertEqual(At("a", LAST).spans({}), [(LAST, LAST)])

    def test_low_above_high(self):
        self.assertEqual(Within("a", 10, 9).spans({}), [])
        self.assertEqual(Within("a", LAST, 0).spans({}), [])
        self.assertEqual(Between("a", "fold", 10, 9).spans(TABLES), [])
        self.assertEqual(Between("a", "fold", WIDEST, -WIDEST).spans(TABLES), [])

    def test_between(self):
        self.assertEqual(Between("a", "fold", 9, 22).spans(TABLES), [(9, 18), (20, 22)])
        self.assertEqual(Between("a", "fold", 10, 14).spans(TABLES), [])
        self.assertEqual(Between("a", "even", -WIDEST, WIDEST).spans(TABLES), [(0, LAST)])
        self.assertEqual(Between("a", "even", 0, 59).spans(TABLES), [])
        self.assertEqual(Between("a", "even", 0, 61).spans(TABLES), [(0, 1)])

    def test_read_at_several_side_by_side_none(self):
        told = [Read("a", "fold", reading).spans(TABLES) for reading in (8, 12, 22, 20)]
        self.assertEqual(told, [[(8, 8)], [], [(18, 18), (22, 22)], [(15, 16), (20, 20)]])
        self.assertEqual(Read("a", "even", WIDEST).spans(TABLES), [])
        rows = [(place, 20 - place) for place in range(21)]
        self.assertEqual(Read("a", "b", 20).spans({"b": Table(rows)}), [(0, 20)])

    def test_by_going_through_all_moments_near(self):
        for rows in many_rows(21, 30):
            tables = {"here": Table(rows)}
            near = list(range(80)) + list(range(LAST - 80, LAST + 1))
            for low in (-12, 0, 5, 13, 40, LAST - 30):
                for size in (-1, 0, 3, 11):
                    wanted = [moment for moment in near if low <= shown(rows, moment) <= low + size]
                    told = Between("a", "here", low, low + size).spans(tables)
                    self.assertTrue(are_spans(told))
                    self.assertEqual([moment for moment in numbers_in(told) if moment in near], wanted)
                read = Read("a", "here", low).spans(tables)
                self.assertEqual(numbers_in(read), tables["here"].moments(low))
                self.assertTrue(are_spans(read))

    def test_joint(self):
        parts = [Within("x", 0, 20), Between("x", "even", 70, 90), Read("y", "fold", 20)]
        self.assertEqual(Joint("a", parts).spans(TABLES), [(15, 16), (20, 20)])
        self.assertEqual(Joint("a", [Within("x", 2, 5)]).spans({}), [(2, 5)])
        self.assertEqual(Joint("a", [Entry("x")]).spans({}), [(0, LAST)])
        self.assertEqual(Joint("a", [At("x", 3), At("x", 4)]).spans({}), [])
        self.assertEqual(Joint("a", [Within("x", 5, 4), Entry("x")]).spans({}), [])

    def test_joint_of_eight_and_of_one_place(self):
        parts = [Within("x", number, 20 + number) for number in range(8)]
        self.assertEqual(Joint("a", parts).spans({}), [(7, 20)])
        both = [Between("x", "fold", 20, 21), Between("x", "fold", 21, 22)]
        self.assertEqual(Joint("a", both).spans(TABLES), [(17, 17), (21, 21)])
        self.assertEqual(Joint("a", [Read("x", "fold", 20), Read("x", "fold", 21)]).spans(TABLES), [])

    def test_joint_with_a_sifted_part(self):
        sifted = Sifted("x", Within("x", 0, 9), lambda moment: moment % 3 == 0)
        self.assertEqual(Joint("a", [sifted, Within("x", 2, 7)]).spans({}), [(3, 3), (6, 6)])

    def test_sifted(self):
        self.assertEqual(Sifted("a", Within("x", 3, 9), lambda moment: moment != 5).spans({}), [(3, 4), (6, 9)])
        self.assertEqual(Sifted("a", Read("x", "fold", 20), lambda moment: moment != 16).spans(TABLES), [(15, 15), (20, 20)])
        self.assertEqual(Sifted("a", Read("x", "fold", 20), always).spans(TABLES), [(15, 16), (20, 20)])
        self.assertEqual(Sifted("a", At("x", 7), always).spans({}), [(7, 7)])
        for part in (At("x", 7), Within("x", 3, 9), Within("x", 9, 3), Read("x", "fold", 20), Read("x", "fold", 12)):
            self.assertEqual(Sifted("a", part, never).spans(TABLES), [])
        self.assertEqual(Sifted("a", Within("x", 9, 3), always).spans({}), [])

    def test_sifted_of_a_thousand_moments(self):
        self.assertEqual(Sifted("a", Within("x", 5, 1004), always).spans({}), [(5, 1004)])
        told = Sifted("a", Within("x", LAST - 999, LAST), lambda moment: moment % 2 == 0).spans({})
        self.assertEqual(told, spans_by_hand(range(LAST - 998, LAST + 1, 2)))
        self.assertEqual(len(told), 500)

    def test_asked_about_moments_of_the_part_alone(self):
        asked = []

        def keeps(moment):
            asked.append(moment)
            return moment == 15

        self.assertEqual(Sifted("a", Read("x", "fold", 20), keeps).spans(TABLES), [(15, 15)])
        self.assertEqual(sorted(set(asked)), [15, 16, 20])
        asked.clear()
        Sifted("a", Within("x", 30, 40), keeps).spans(TABLES)
        self.assertEqual(sorted(set(asked)), list(range(30, 41)))
        self.assertTrue(all(type(moment) is int for moment in asked))

    def test_other_tables_other_moments(self):
        read = Read("a", "here", 20)
        self.assertEqual(read.spans({"here": Table([(0, 0)])}), [(20, 20)])
        self.assertEqual(read.spans({"here": Table([(0, 5)])}), [(15, 15)])
        self.assertEqual(read.spans({"here": Table([(0, 0)])}), [(20, 20)])

    def test_told_is_the_askers_own_and_tables_stay(self):
        tables = dict(TABLES)
        entries = one_of_each() + [Joint("a", [Read("x", "fold", 20)]), Sifted("a", Read("x", "fold", 20), always)]
        for entry in entries:
            wanted = list(entry.spans(tables))
            entry.spans(tables).append((5, 5))
            entry.spans(tables).clear()
            self.assertEqual(entry.spans(tables), wanted)
        self.assertEqual(tables, TABLES)

    def test_no_place(self):
        for entry in (Between("a", "gone", 3, 9), Between("a", "gone", 9, 3), Read("a", "gone", 3),
                      Sifted("a", Read("x", "gone", 3), always), Joint("a", [Read("x", "gone", 3)])):
            refuses(self, NoPlace, "found", "gone", entry.spans, TABLES)
            refuses(self, NoPlace, "found", "gone", entry.spans, {})

    def test_first_place_that_is_missing(self):
        parts = [Read("x", "fold", 20), At("x", 3), Read("x", "zoo", 3), Read("x", "ant", 3), Read("x", "even", 3)]
        joint = Joint("a", parts)
        refuses(self, NoPlace, "found", "zoo", joint.spans, TABLES)
        refuses(self, NoPlace, "found", "fold", joint.spans, {})
        refuses(self, NoPlace, "found", "ant", joint.spans, {"zoo": TABLES["even"], **TABLES})
        # Nothing is left ahead of the part that lacks its table.
        refuses(self, NoPlace, "found", "zoo", Joint("a", [Within("x", 5, 4), Read("x", "zoo", 3)]).spans, TABLES)


class Parts(unittest.TestCase):
    def test_in_their_order(self):
        parts = [At("x", 4), Entry("x"), Within("y", 3, 9)]
        told = Joint("a", parts).parts()
        self.assertEqual(told, parts)
        same = At("x", 4)
        self.assertEqual(Joint("a", [same, same]).parts(), [same, same])

    def test_handed_in_and_told_are_copies(self):
        four, five = At("x", 4), At("x", 5)
        parts = [four]
        joint = Joint("a", parts)
        self.assertEqual(parts, [four])
        parts.append(five)
        joint.parts().append(five)
        joint.parts().clear()
        self.assertEqual(joint.parts(), [four])
        self.assertEqual(joint.spans({}), [(4, 4)])


class Refused(unittest.TestCase):
    def test_no_name(self):
        for thing in NO_NAMES:
            refuses(self, NoName, "found", thing, Entry, thing)
            refuses(self, NoName, "found", thing, Within, thing, None, None)
            refuses(self, NoName, "found", thing, At, thing, None)
            refuses(self, NoName, "found", thing, Between, thing, None, None, None)
            refuses(self, NoName, "found", thing, Read, thing, None, None)
            refuses(self, NoName, "found", thing, Joint, thing, None)
            refuses(self, NoName, "found", thing, Sifted, thing, None, always)

    def test_no_name_of_the_place(self):
        for thing in NO_NAMES:
            refuses(self, NoName, "found", thing, Between, "a", thing, None, None)
            refuses(self, NoName, "found", thing, Read, "a", thing, None)

    def test_no_moment(self):
        for thing in NO_MOMENTS:
            refuses(self, NoMoment, "found", thing, Within, "a", thing, 7)
            refuses(self, NoMoment, "found", thing, Within, "a", 7, thing)
            refuses(self, NoMoment, "found", thing, Within, "a", thing, "no")
            refuses(self, NoMoment, "found", thing, At, "a", thing)

    def test_no_reading(self):
        for thing in NO_READINGS:
            refuses(self, NoReading, "found", thing, Between, "a", "b", thing, 7)
            refuses(self, NoReading, "found", thing, Between, "a", "b", 7, thing)
            refuses(self, NoReading, "found", thing, Between, "a", "b", thing, "no")
            refuses(self, NoReading, "found", thing, Read, "a", "b", thing)

    def test_bounds_that_are_not_refused(self):
        self.assertEqual(Within("a", LAST, 0).low, LAST)
        self.assertEqual(Between("a", "b", WIDEST, -WIDEST).high, -WIDEST)
        self.assertEqual(Read("a", "b", -WIDEST).low, -WIDEST)

    def test_parts_that_are_no_list_or_none(self):
        for thing in [thing for thing in ODD_THINGS if not isinstance(thing, list)] + [[], (At("x", 1),), At("x", 1), {}, 7]:
            refuses(self, NoEntry, "found", thing, Joint, "a", thing)

    def test_too_many_parts_ahead_of_what_they_are(self):
        refuses(self, TooMany, "many", 9, Joint, "a", [At("x", 1)] * 9)
        refuses(self, TooMany, "many", 9, Joint, "a", [None] * 9)
        refuses(self, TooMany, "many", 60, Joint, "a", [Joint("a", [At("x", 1)])] * 60)
        self.assertEqual(len(Joint("a", [At("x", 1)] * 8).parts()), 8)

    def test_first_thing_that_is_no_part(self):
        joint = Joint("b", [At("x", 1)])
        for thing in ODD_THINGS + [joint, deep_list(), 7, Table([(0, 0)]), Log(), a_function]:
            refuses(self, NoEntry, "found", thing, Joint, "a", [thing])
            refuses(self, NoEntry, "found", thing, Joint, "a", [At("x", 1), Entry("y"), thing, None, joint])
            refuses(self, NoEntry, "found", thing, Joint, "a", [At("x", 1)] * 7 + [thing])

    def test_parts_of_all_other_kinds(self):
        parts = [entry for entry in one_of_each() if entry.word() != "joint"]
        self.assertEqual(Joint("a", parts).parts(), parts)

    def test_no_part_to_be_sifted(self):
        others = [Entry("x"), Between("x", "b", 1, 1), Joint("x", [At("x", 1)]), Sifted("x", At("x", 1), always)]
        for thing in ODD_THINGS + others + [deep_list(), 7, [At("x", 1)], Table([(0, 0)]), Log()]:
            refuses(self, NoEntry, "found", thing, Sifted, "a", thing, always)

    def test_too_many_moments_to_be_sifted(self):
        refuses(self, TooMany, "many", 1001, Sifted, "a", Within("x", 0, 1000), always)
        refuses(self, TooMany, "many", 1001, Sifted, "a", Within("x", LAST - 1000, LAST), always)
        refuses(self, TooMany, "many", LAST + 1, Sifted, "a", Within("x", 0, LAST), never)
        self.assertEqual(Sifted("a", Within("x", 0, 999), never).spans({}), [])
        self.assertEqual(Sifted("a", Within("x", LAST, 0), always).spans({}), [])

    def test_a_refused_making_leaves_the_list(self):
        part = At("x", 1)
        parts = [part, None]
        refuses(self, NoEntry, "found", None, Joint, "a", parts)
        self.assertEqual(parts, [part, None])


if __name__ == "__main__":
    unittest.main()
