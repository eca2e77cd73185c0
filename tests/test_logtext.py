import itertools
import random
import unittest

from foldlog.entries import At, Between, Entry, Joint, Read, Sifted, Within
from foldlog.errors import LogError, NoEntry, NoPlace, NoText, Taken, TooMany, Unwritten
from foldlog.logs import Log
from foldlog.logtext import form_text, log_text, put_line, read_log
from foldlog.tables import Table
from logsets import FOLD, LAST, a_log, free_log, full_log, log_of, name_of, told_by
from refusals import ODD_THINGS, deep_list, refuses

WIDEST = 10 ** 10

# Each form with what the entry of it tells: its word, places, and numbers.
FORMS = {
    "any": Entry("e"),
    "within 0.00.00 694444.10.40": Within("e", 0, LAST),
    "within 1.01.01 0.00.05": Within("e", 1501, 5),
    "within 0.00.07 0.00.07": Within("e", 7, 7),
    "at 0.00.00": At("e", 0),
    "at 694444.10.40": At("e", LAST),
    "between port -6944445.13.20 6944444.10.40": Between("e", "port", -WIDEST, WIDEST),
    "between port 0.00.09 -1.23.59": Between("e", "port", 9, -1),
    "read port -1.00.00": Read("e", "port", -1440),
    "read port 0.00.20": Read("e", "port", 20),
}

# Forms that nearly are.
NO_FORMS = [
    "", " ", "Any", "anyany", "any ", " any", "any any", "any 0.00.00", "sifted", "sifted any", "sifted at 0.00.00", "0.00.00",
    "within", "within ", "within 0.00.00", "within 0.00.00 ", "within 0.00.00 0.00.05 0.00.09", "within  0.00.00 0.00.05",
    "within 0.00.00  0.00.05", " within 0.00.00 0.00.05", "within 0.00.00 0.00.05 ", "within 0.00.00 0.00.60", "within 0 5",
    "within 0.00.00 694444.10.41", "within -1.23.59 0.00.05", "within 00.00.00 0.00.05", "within 0.00.00..0.00.05",
    "at", "at ", "at 0.00.00 0.00.00", "at 0.24.00", "at 694444.10.41", "at -1.23.59", "at -0.00.00", "at port", "at 0", "At 0.00.00",
    "at  0.00.00", "at 0.0.00", "at 0.00", "at\n0.00.00", "at 0.00.00\n",
    "between port", "between port 0.00.00", "between port 0.00.00 0.00.05 0.00.05", "between 0.00.00 0.00.05", "between Port 0.00.00 0.00.05",
    "between port -6944445.13.19 0.00.00", "between port 0.00.00 6944444.10.41", "between abcdefghi 0.00.00 0.00.05",
    "between port0 0.00.00 0.00.05", "between  0.00.00 0.00.05", "between port 0.00.00 0.00.05 ", "between port 0 5",
    "read", "read port", "read 0.00.00", "read port 0.00.00 0.00.00", "read port 6944444.10.41", "read port -6944445.13.19",
    "read PORT 0.00.00", "read port  0.00.00", "read port 00.00.00", "read port port", "read port 20",
    "joint", "joint ", "joint  any", "joint any ", "joint any &", "joint any & ", "joint any &any", "joint any& any", "joint & any",
    "joint any any", "joint any & & any", "joint any  & any", "joint any &  any", "joint joint any", "joint any & joint any",
    "joint joint any & any", "joint sifted", "joint any & at 0.24.00", "joint any & within 0.00.00", "joint" + " & any" * 2,
    "joint " + " & ".join(["any"] * 9), "joint " + " & ".join(["any"] * 8) + " &", "any & any", "Joint any", "joint any & any\n",
]


def same_entry(case, one, other):
    # The same kind with the same fields, and likewise the parts.
    case.assertIs(type(one), type(other))
    case.assertEqual((one.word(), one.places()), (other.word(), other.places()))
    for field in ("place", "low", "high"):
        case.assertEqual(getattr(one, field, None), getattr(other, field, None))
    if type(one) is Joint:
        case.assertEqual(len(one.parts()), len(other.parts()))
        for part, wanted in zip(one.parts(), other.parts()):
            case.assertEqual(part.name, one.name)
            same_entry(case, part, wanted)


def port_log():
    log = Log()
    log.clock("port", Table(FOLD))
    return log


def refuses_unwritten(case, name, call, thing):
    with case.assertRaises(LogError) as caught:
        call(thing)
    case.assertIs(type(caught.exception), Unwritten)
    case.assertEqual(vars(caught.exception), {"name": name})


def sifted(name):
    return Sifted(name, Within("part", 0, 9), lambda moment: True)


class Forms(unittest.TestCase):
    def test_each_kind(self):
        for form, entry in FORMS.items():
            self.assertEqual(form_text(entry), form)
            self.assertEqual(form_text(Joint("j", [entry])), "joint " + form)

    def test_joint(self):
        entries = list(FORMS.values())[:8]
        for many in range(1, 9):
            self.assertEqual(form_text(Joint("j", entries[:many])), "joint " + " & ".join(list(FORMS)[:many]))
        self.assertEqual(form_text(Joint("j", [At("x", 5), Entry("y"), At("z", 0)])), "joint at 0.00.05 & any & at 0.00.00")

    def test_a_sifted_entry_has_no_form(self):
        refuses_unwritten(self, "s", form_text, sifted("s"))
        refuses_unwritten(self, "s", form_text, Sifted("s", Read("r", "port", 5), lambda moment: True))

    def test_nor_a_joint_one_with_a_sifted_part(self):
        for parts in ([sifted("s")], [Entry("e"), sifted("s")], [sifted("s"), Entry("e")], [sifted("s"), sifted("t")]):
            refuses_unwritten(self, "j", form_text, Joint("j", parts))

    def test_names_of_parts_play_no_part(self):
        self.assertEqual(form_text(Joint("j", [At("one", 5)])), form_text(Joint("k", [At("two", 5)])))


class Written(unittest.TestCase):
    def test_nothing(self):
        self.assertEqual(log_text(Log()), "")

    def test_ordinary(self):
        log = a_log()
        log.drop("sifted")
        before = told_by(log)
        self.assertEqual(log_text(log).split("\n"), [
            "clock even 0.00.00 +1.00",
            "clock fold 0.00.00 +0.00; 0.00.10 +0.05; 0.00.16 +0.04; 0.00.20 +0.00",
            "entry any any",
            "entry within within 0.00.03 0.00.40",
            "entry at at 0.00.17",
            "entry between between fold 0.00.09 0.00.22",
            "entry read read fold 0.00.20",
            "entry joint joint within 0.00.00 0.00.20 & between even 0.01.10 0.01.30 & read fold 0.00.20",
            "bond within at 3",
            "bond any read -5",
            "bond read between 0",
            "bond joint at -1",
            "bond any any 0",
        ])
        self.assertEqual(told_by(log), before)

    def test_parts_alone(self):
        self.assertEqual(log_text(port_log()), "clock port 0.00.00 +0.00; 0.00.10 +0.05; 0.00.16 +0.04; 0.00.20 +0.00")
        self.assertEqual(log_text(free_log(2)), "entry na any\nentry nb any")
        self.assertEqual(log_text(free_log(1, [(0, 0, -2000000000), (0, 0, 2000000001)])),
                         "entry na any\nbond na na -2000000000\nbond na na 2000000001")

    def test_places_sorted_and_entries_in_their_order(self):
        log = Log()
        for place in ("m", "z", "a"):
            log.clock(place, Table([(0, 0)]))
        for name in ("y", "b", "q"):
            log.put(Entry(name))
        words = [line.split(" ")[1] for line in log_text(log).split("\n")]
        self.assertEqual(words, ["a", "m", "z", "y", "b", "q"])

    def test_rows_as_they_are(self):
        log = Log()
        log.clock("p", Table([(0, 5), (9, 5)]))
        self.assertEqual(log_text(log), "clock p 0.00.00 +0.05; 0.00.09 +0.05")

    def test_unwritten(self):
        log = free_log(1)
        log.put(Joint("second", [Entry("x"), sifted("other")]))
        log.put(sifted("first"))
        refuses_unwritten(self, "second", log_text, log)
        log.drop("second")
        refuses_unwritten(self, "first", log_text, log)
        log.drop("first")
        self.assertEqual(log_text(log), "entry na any")
        refuses_unwritten(self, "sifted", log_text, a_log())


class Lines(unittest.TestCase):
    def put(self, log, line):
        self.assertIsNone(put_line(log, line))

    def refused(self, log, line, wanted=NoText, field="at", value=0):
        before = told_by(log)
        with self.assertRaises(LogError) as caught:
            put_line(log, line)
        self.assertIs(type(caught.exception), wanted, line)
        self.assertEqual(vars(caught.exception), {field: value}, line)
        self.assertEqual(told_by(log), before)

    def test_entries(self):
        for form, entry in FORMS.items():
            log = port_log()
            self.put(log, "entry new " + form)
            self.assertEqual(log.names(), ["new"])
            self.assertEqual(log.entry("new").name, "new")
            same_entry(self, log.entry("new"), entry)
            self.put(log, "entry more joint " + form)
            same_entry(self, log.entry("more"), Joint("x", [entry]))
            self.assertEqual([part.name for part in log.entry("more").parts()], ["more"])

    def test_joint_ones(self):
        chance = random.Random(181)
        for many in range(1, 9):
            forms = chance.sample(list(FORMS), many)
            log = port_log()
            self.put(log, "entry j joint " + " & ".join(forms))
            same_entry(self, log.entry("j"), Joint("j", [FORMS[form] for form in forms]))
        self.put(log, "entry k joint any & any & any & any & any & any & any & any")

    def test_clocks(self):
        log = Log()
        self.put(log, "clock port 0.00.00 +0.00; 0.00.10 +0.05; 0.00.16 +0.04; 0.00.20 +0.00")
        self.assertEqual(log.table("port").rows(), FOLD)
        self.put(log, "entry r read port 0.00.22")
        self.assertEqual(log.spans("r"), [(18, 18), (22, 22)])
        self.put(log, "clock port 0.00.00 -1.00")
        self.assertEqual((log.places(), log.table("port").rows(), log.spans("r")), (["port"], [(0, -60)], [(82, 82)]))
        rows = "; ".join(["0.00.0" + str(figure) + " +0.00" for figure in range(10)]
                         + ["0.01." + str(figure) + " +0.01" for figure in range(10, 21)])
        self.put(log, "clock abcdefgh " + rows)
        self.assertEqual(len(log.table("abcdefgh").rows()), 21)
        self.refused(log, "clock abcdefgh " + rows + "; 1.00.00 +0.00")

    def test_bonds(self):
        log = free_log(2)
        for minutes in (0, 5, -5, 2000000001, -2000000000):
            self.put(log, "bond na nb " + str(minutes))
            self.assertEqual(log.bonds()[-1], ("na", "nb", minutes))
        self.put(log, "bond na na 0")
        self.assertEqual(len(log.bonds()), 6)

    def test_forms_that_nearly_are(self):
        for form in NO_FORMS:
            self.refused(port_log(), "entry new " + form)

    def test_lines_that_nearly_could_stand(self):
        log = port_log()
        log.put(Entry("a"))
        log.put(Entry("b"))
        for line in (
                "", " ", "\n", "entry", "entry ", "entry new", "entry new ", "entry  new any", " entry new any", "entry new any ",
                "Entry new any", "entries new any", "entry New any", "entry new1 any", "entry abcdefghi any", "entry  any", "entrynew any",
                "entry any", "entry new any\n", "\nentry new any", "entry new any\nentry more any", "entry\nnew any", "entry new\nany",
                "clock", "clock ", "clock port", "clock port ", "clock port 0.00.00", "clock port 0.00.00 +0.00;", "clock port +0.00",
                "clock port 0.00.00 +0.00; ", "clock port  0.00.00 +0.00", " clock port 0.00.00 +0.00", "clock  port 0.00.00 +0.00",
                "clock Port 0.00.00 +0.00", "clock 0.00.00 +0.00", "clock port 0.00.00 +0.00 ", "clock port 0.00.00 +00.00",
                "clock port 0.00.00 +48.01", "clock port 0.00.01 +0.00", "clock port 0.00.00 +0.00; 0.00.00 +0.01",
                "clock port 0.00.00 +0.00; 0.00.09 +0.00; 0.00.08 +0.00", "clock port 0.00.00 +0.00;0.00.09 +0.00",
                "clock port 0.00.00 +0.00; 694444.10.41 +0.00", "clock abcdefghi 0.00.00 +0.00", "clock port 0.00.00 +0.00\n",
                "Clock port 0.00.00 +0.00", "clock port 0.00.00  +0.00", "clockport 0.00.00 +0.00",
                "bond", "bond ", "bond a", "bond a b", "bond a b ", "bond a b 5 ", "bond a b 5 5", "bond  a b 5", "bond a  b 5", "bond a b  5",
                " bond a b 5", "bond a b 05", "bond a b -0", "bond a b +5", "bond a b 5.0", "bond a b five", "bond a b 2000000002",
                "bond a b -2000000001", "bond a b " + "9" * 5000, "bond A b 5", "bond a B 5", "bond a 5 b", "bond a b 0.00.05",
                "bond a b 5\n", "bond a b \n5", "bond abcdefghi b 5", "Bond a b 5", "bonda b 5", "bond a, b 5", "bond a b - 5",
                "log", "names", "drop a", "unbond 0", "way", "joint any", "any", "port 0.00.00 +0.00"):
            self.refused(log, line)

    def test_no_texts(self):
        log = a_log()
        before = told_by(log)
        for thing in [thing for thing in ODD_THINGS if not isinstance(thing, str)] + [deep_list(), log, ["entry new any"], 0]:
            refuses(self, NoText, "at", 0, put_line, log, thing)
        self.assertEqual(told_by(log), before)

    def test_deeds_that_are_refused(self):
        log = port_log()
        self.put(log, "entry a any")
        self.refused(log, "entry a at 0.00.00", Taken, "found", "a")
        self.refused(log, "entry a read nowhere 0.00.00", Taken, "found", "a")
        self.refused(log, "entry b read nowhere 0.00.00", NoPlace, "found", "nowhere")
        self.refused(log, "entry b between nowhere 0.00.00 0.00.00", NoPlace, "found", "nowhere")
        self.refused(log, "entry b joint any & read port 0.00.00 & read x 0.00.00 & read y 0.00.00", NoPlace, "found", "x")
        self.refused(log, "bond b c 0", NoEntry, "found", "b")
        self.refused(log, "bond a c 0", NoEntry, "found", "c")
        self.refused(log, "bond b a 0", NoEntry, "found", "b")

    def test_too_many(self):
        log = free_log(60, [(0, 0, 0)] * 100)
        for place in "abcdef":
            log.clock(place, Table([(0, 0)]))
        self.refused(log, "clock g 0.00.00 +0.00", TooMany, "many", 7)
        self.refused(log, "entry new any", TooMany, "many", 61)
        self.refused(log, "bond na na 0", TooMany, "many", 101)
        self.put(log, "clock a 0.00.00 +1.00")
        self.assertEqual(log.table("a").rows(), [(0, 60)])

    def test_no_text_goes_ahead_of_the_deed(self):
        log = port_log()
        self.refused(log, "entry b read nowhere 0.24.00")
        self.refused(log, "bond b c 05")
        self.refused(free_log(60), "entry new anything")

    def test_lines_behind_one_another(self):
        log = Log()
        for line in ("entry a any", "clock p 0.00.00 +0.00", "entry b read p 0.00.05", "bond b a 3", "clock q 0.00.00 +0.00", "entry c any"):
            self.put(log, line)
        self.assertEqual((log.names(), log.places(), log.bonds()), (["a", "b", "c"], ["p", "q"], [("b", "a", 3)]))


class ReadAgain(unittest.TestCase):
    def check(self, log):
        text = log_text(log)
        told = read_log(text)
        self.assertIs(type(told), Log)
        self.assertEqual(log_text(told), text)
        self.assertEqual((told.names(), told.bonds(), told.places()), (log.names(), log.bonds(), log.places()))
        for place in log.places():
            self.assertEqual(told.table(place).rows(), log.table(place).rows())
        for name in log.names():
            self.assertEqual(told.spans(name), log.spans(name))
            same_entry(self, told.entry(name), log.entry(name))
        return told

    def test_nothing(self):
        self.check(Log())
        self.assertEqual(told_by(read_log("")), told_by(Log()))

    def test_ordinary(self):
        log = a_log()
        log.drop("sifted")
        self.check(log)
        self.check(free_log(60, [(0, 1, 5)] * 100))
        self.check(port_log())

    def test_each_form(self):
        log = port_log()
        for number, entry in enumerate(FORMS.values()):
            put_line(log, "entry " + name_of(number) + " " + form_text(entry))
        self.check(log)

    def test_full_logs(self):
        for seed in range(70, 74):
            log, way = full_log(seed)
            for name in log.names():
                entry = log.entry(name)
                parts = entry.parts() if type(entry) is Joint else [entry]
                if any(type(part) is Sifted for part in parts):
                    log.drop(name)
            self.assertGreater(len(log.names()), 20)
            self.check(log)

    def test_small_logs(self):
        chance = random.Random(182)
        for turn in range(100):
            moments = [range(low, low + chance.randint(0, 3)) for low in range(4)]
            bonds = [(chance.randrange(4), chance.randrange(4), chance.randint(-9, 9)) for bond in range(chance.randint(0, 5))]
            self.check(log_of(moments, bonds, turn))


class Texts(unittest.TestCase):
    LINES = ["clock port 0.00.00 +0.00", "entry a read port 0.00.05", "entry b any", "bond a b 3"]

    def refused(self, lines, wanted, field, value):
        with self.assertRaises(LogError) as caught:
            read_log("\n".join(lines))
        self.assertIs(type(caught.exception), wanted, lines)
        self.assertEqual(vars(caught.exception), {field: value}, lines)

    def test_any_order_that_is_not_refused(self):
        told = set()
        for lines in itertools.permutations(self.LINES):
            due = self.first_due(lines)
            if due is not None:
                self.refused(lines, *due)
                continue
            log = read_log("\n".join(lines))
            told.add(log_text(log))
            self.assertEqual((sorted(log.names()), log.bonds()), (["a", "b"], [("a", "b", 3)]))
        self.assertEqual(len(told), 2)

    def first_due(self, lines):
        # By hand: what the first line is refused with whose deed is.
        seen = []
        for line in lines:
            if line == self.LINES[1] and self.LINES[0] not in seen:
                return NoPlace, "found", "port"
            if line == self.LINES[3]:
                for name, needed in (("a", self.LINES[1]), ("b", self.LINES[2])):
                    if needed not in seen:
                        return NoEntry, "found", name
            seen.append(line)
        return None

    def test_no_texts(self):
        for thing in [thing for thing in ODD_THINGS if not isinstance(thing, str)] + [deep_list(), Log(), self.LINES, 0]:
            refuses(self, NoText, "at", 0, read_log, thing)

    def test_an_empty_line(self):
        for place in range(5):
            self.refused(self.LINES[:place] + [""] + self.LINES[place:], NoText, "at", place)
        self.refused(["", ""], NoText, "at", 0)
        self.refused([" "], NoText, "at", 0)

    def test_a_line_feed_at_the_end(self):
        self.refused(self.LINES + [""], NoText, "at", 4)

    def test_a_line_that_could_not_stand(self):
        for place in range(5):
            for line in ("entry c", "bond a b 03", "clock port", "shelf", " entry c any"):
                self.refused(self.LINES[:place] + [line] + self.LINES[place:], NoText, "at", place)

    def test_whichever_comes_first(self):
        bad, due = "entry c anything", "bond x y 3"
        self.refused([bad, due], NoText, "at", 0)
        self.refused([due, bad], NoEntry, "found", "x")
        self.refused(self.LINES + [due, bad], NoEntry, "found", "x")
        self.refused(self.LINES + [bad, due], NoText, "at", 4)
        self.refused(self.LINES + ["entry a any", ""], Taken, "found", "a")
        self.refused(self.LINES + ["", "entry a any"], NoText, "at", 4)

    def test_a_clock_again(self):
        log = read_log("\n".join(self.LINES + ["clock port 0.00.00 +0.01"]))
        self.assertEqual(log.spans("a"), [(4, 4)])

    def test_too_many(self):
        self.refused(["entry " + name_of(number) + " any" for number in range(61)], TooMany, "many", 61)
        self.refused(["clock " + place + " 0.00.00 +0.00" for place in "abcdefg"], TooMany, "many", 7)
        self.refused(["entry a any"] + ["bond a a 0"] * 101, TooMany, "many", 101)

    def test_40000_signs(self):
        text = "\n".join(["entry a any"] + ["clock p 0.00.00 +0.00"] * 1817)
        self.assertLess(40000 - len(text), 30)
        self.assertEqual(read_log(text).places(), ["p"])
        refuses(self, NoText, "at", 0, read_log, "a" * 40000)
        refuses(self, NoText, "at", 0, read_log, "\n" * 40000)
        refuses(self, NoText, "at", 0, read_log, "entry a joint " + "any & " * 6660 + "any")

    def test_two_logs_have_nothing_in_common(self):
        text = "\n".join(self.LINES)
        one, other = read_log(text), read_log(text)
        one.drop("a")
        one.clock("port", Table([(0, 9)]))
        self.assertEqual(log_text(other), text)
        self.assertEqual(log_text(read_log(text)), text)


if __name__ == "__main__":
    unittest.main()
