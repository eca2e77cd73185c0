import random
import unittest

from foldlog.chances import chances
from foldlog.clocks import clock_text
from foldlog.desk import Desk
from foldlog.earliest import earliest
from foldlog.errors import (Beyond, LogError, NoBond, NoEntry, NoLine, NoMinutes, NoPlace, NoWay, Taken, TooMany, Unlike)
from foldlog.firsts import first_pairs, least_gap, surely_first
from foldlog.idle import is_idle, lean, shut_out, tightened
from foldlog.joins import picked, put_together
from foldlog.latest import latest
from foldlog.logtext import log_text, read_log
from foldlog.papers import is_paper
from logsets import full_log, name_of
from refusals import ODD_THINGS, deep_list, refuses

HOME = "clock home 0.00.00 +0.00; 0.00.10 +0.05; 0.00.16 +0.04; 0.00.20 +0.00"
LINES = [
    HOME,
    "clock port 0.00.00 +1.00",
    "entry bell read home 0.00.20",
    "entry gun within 0.00.10 0.00.30",
    "entry ship between port 0.01.05 0.01.40",
    "entry noon at 0.00.18",
    "bond gun bell 2",
    "bond ship gun 1",
    "bond ship bell 3",
    "bond gun gun 0",
]


def desk_of(lines):
    desk = Desk()
    for line in lines:
        desk.say(line)
    return desk


def lines_of(log):
    return log_text(log).split("\n") if log_text(log) else []


def log_at(desk):
    return read_log("\n".join(desk.say("log")))


def shelved(desk):
    # What lies on the shelf, each as its lines; asked on the desk, which stays.
    before = desk.say("log")
    desk.say("shelve zzzzzzzz")
    told = {}
    for name in desk.say("shelf"):
        desk.say("fetch " + name)
        told[name] = desk.say("log")
    desk.say("fetch zzzzzzzz")
    told.pop("zzzzzzzz")
    assert desk.say("log") == before
    return told


class DeskCase(unittest.TestCase):
    def says(self, desk, line, wanted):
        told = desk.say(line)
        self.assertIs(type(told), list, line)
        self.assertEqual(told, wanted, line)
        self.assertTrue(all(type(text) is str for text in told))

    def refused(self, desk, line, wanted, **fields):
        # What is refused changes nothing.
        before = (desk.say("log"), desk.say("shelf"))
        with self.assertRaises(LogError) as caught:
            desk.say(line)
        self.assertIs(type(caught.exception), wanted, line)
        if fields:
            self.assertEqual(vars(caught.exception), fields, line)
        self.assertEqual((desk.say("log"), desk.say("shelf")), before)
        return caught.exception

    def no_line(self, desk, line):
        self.refused(desk, line, NoLine, found=line)


class Lines(DeskCase):
    def test_at_first(self):
        desk = Desk()
        for line in ("log", "names", "shelf", "earliest", "latest", "fixed", "pairs", "lean", "show 0.00.00"):
            self.says(desk, line, [])
        self.says(desk, "why", ["way"])
        self.says(desk, "tighten", [])
        self.says(desk, "new", [])

    def test_no_texts(self):
        desk = desk_of(LINES)
        for thing in [thing for thing in ODD_THINGS if not isinstance(thing, str)] + [deep_list(), desk, ["log"], 0]:
            refuses(self, NoLine, "found", thing, desk.say, thing)
        self.says(desk, "log", LINES)

    def test_none_of_these_lines(self):
        desk = desk_of(LINES)
        for line in ("", " ", "\n", "Log", "log ", " log", "log log", "log\n", "logs", "x", "way", "names names", "shelf a", "new log",
                     "lean 0", "tighten 0", "why not", "fixed gun", "pairs gun", "earliest gun", "latest 0.00.00", "word()", "say",
                     "unbond", "unbond ", "unbond -1", "unbond 00", "unbond 0 1", "unbond gun", "unbond +0", "unbond 1000000",
                     "unbond  0", "drop", "drop ", "drop Gun", "drop gun bell", "drop  gun", "drop 0", "drop abcdefghi",
                     "splice home port", "splice home 0.00.00", "splice home port 0", "splice home port 0.24.00", "splice home port -1.23.59",
                     "splice home port 694444.10.41", "splice home port 0.00.00 0.00.00", "splice Home port 0.00.00",
                     "forward home 0.00.00", "forward home 5", "forward home 0.00.00 05", "forward home 0.00.00 -0", "forward home 5 0.00.00",
                     "forward home 0.00.00 2000000002", "forward home 0.00.00 -2000000001", "forward home 0.00.60 5",
                     "shorten", "shorten home port", "shorten 0", "pick", "pick ", "pick gun ", "pick  gun", "pick gun  bell", "pick Gun",
                     "pick gun 0", "shelve", "shelve S", "shelve a b", "fetch", "fetch 0", "join", "join a b", "shelves",
                     "show", "show 0", "show 0.00.00 0.00.00", "show -1.23.59", "show 694444.10.41", "show home", "show 0.00.60",
                     "moments home", "moments 0.00.00", "moments home 0.00.00 0.00.00", "moments home 6944444.10.41",
                     "moments home -6944445.13.19", "moments home 20", "led home port", "led home 0.00.20", "led home port 20",
                     "unlike home", "unlike home port home", "skipped", "skipped home port", "repeated", "repeated 0",
                     "spans", "spans gun bell", "spans 0", "chances", "chances 0", "chances gun bell", "at gun", "at 0.00.00", "at 0.00.00 gun",
                     "at gun -1.23.59", "at gun 694444.10.41", "at gun 0", "first gun", "first gun bell ship", "first gun 0",
                     "gap gun", "gap gun bell ship", "idle", "idle -1", "idle 00", "idle 0 0", "idle 1000000", "idle gun",
                     "shut gun bell", "shut gun bell 05", "shut gun bell 2000000002", "shut gun bell ship", "shut gun bell 0 0",
                     "entry", "entry ", "entry x", "entry x anything", "entry x sifted", "clock", "clock ", "clock p", "clock p 0.00.00",
                     "bond", "bond ", "bond gun bell", "bond gun bell 05", "bond gun bell 2000000002", "bond gun bell 0 ", "entry X any",
                     "clock home 0.00.01 +0.00", "entry x any\nentry y any", "entry x joint joint any", "unbond\n0", "drop gun\n"):
            self.no_line(desk, line)
        self.says(desk, "log", LINES)

    def test_40000_signs(self):
        desk = desk_of(LINES)
        for line in ("a" * 40000, " " * 40000, "drop " + "a" * 39995, "unbond " + "9" * 39993, "pick" + " Gun" * 9999, "clock p " + "0" * 39000):
            self.no_line(desk, line)
        self.says(desk, "pick" + " gun" * 9999, [])
        self.says(desk, "names", ["gun"])


class Changes(DeskCase):
    def test_put_in(self):
        desk = Desk()
        for line in LINES[:6]:
            self.says(desk, line, [])
        for number, line in enumerate(LINES[6:]):
            self.says(desk, line, [str(number)])
        self.says(desk, "log", LINES)
        self.says(desk, "names", ["bell", "gun", "ship", "noon"])

    def test_a_clock_again(self):
        desk = desk_of(LINES)
        self.says(desk, "clock home 0.00.00 +0.00", [])
        self.says(desk, "spans bell", ["0.00.20"])

    def test_put_in_refused(self):
        desk = desk_of(LINES)
        self.refused(desk, "entry gun any", Taken, found="gun")
        self.refused(desk, "entry x read nowhere 0.00.00", NoPlace, found="nowhere")
        self.refused(desk, "bond x y 0", NoEntry, found="x")
        self.refused(desk, "bond gun y 0", NoEntry, found="y")
        # What could not stand goes ahead of what is refused.
        self.no_line(desk, "entry gun anything")
        self.no_line(desk, "bond x y 00")
        full = desk_of(["entry " + name_of(number) + " any" for number in range(60)] + ["bond na na 0"] * 100
                       + ["clock " + place + " 0.00.00 +0.00" for place in "abcdef"])
        self.refused(full, "entry x any", TooMany, many=61)
        self.refused(full, "bond na na 0", TooMany, many=101)
        self.refused(full, "clock g 0.00.00 +0.00", TooMany, many=7)

    def test_unbond(self):
        desk = desk_of(LINES)
        self.says(desk, "unbond 1", [])
        self.says(desk, "log", LINES[:7] + LINES[8:])
        self.refused(desk, "unbond 3", NoBond, found=3)
        self.refused(desk, "unbond 999999", NoBond, found=999999)
        self.no_line(desk, "unbond 1000000")
        self.refused(Desk(), "unbond 0", NoBond, found=0)

    def test_drop(self):
        desk = desk_of(LINES)
        self.says(desk, "drop gun", [])
        self.says(desk, "log", LINES[:3] + LINES[4:6] + ["bond ship bell 3"])
        self.refused(desk, "drop gun", NoEntry, found="gun")

    def test_splice(self):
        desk = desk_of(LINES)
        self.says(desk, "splice home port 0.00.12", [])
        self.says(desk, "log", ["clock home 0.00.00 +0.00; 0.00.10 +0.05; 0.00.12 +1.00"] + LINES[1:])
        self.says(desk, "splice port home 0.00.11", [])
        self.assertEqual(desk.say("log")[1], "clock port 0.00.00 +1.00; 0.00.11 +0.05; 0.00.12 +1.00")
        self.says(desk, "splice home home 0.00.05", [])
        self.refused(desk, "splice x y 0.00.00", NoPlace, found="x")
        self.refused(desk, "splice home y 0.00.00", NoPlace, found="y")
        self.refused(desk, "splice y home 0.00.00", NoPlace, found="y")

    def test_splice_too_many(self):
        rows = ["0.00." + str(minute) + " +0.0" + str(minute % 2) for minute in range(10, 29)]
        desk = desk_of(["clock a 0.00.00 +0.00; " + "; ".join(rows), "clock b 0.00.00 +1.00; 1.00.00 +2.00; 1.00.01 +3.00"])
        self.refused(desk, "splice a b 0.12.00", TooMany, many=22)
        self.says(desk, "splice a b 1.00.00", [])
        self.assertEqual(desk.say("log")[0].count("; "), 20)

    def test_forward(self):
        desk = desk_of(LINES)
        self.says(desk, "forward port 0.00.30 -75", [])
        self.assertEqual(desk.say("log")[1], "clock port 0.00.00 +1.00; 0.00.30 -0.15")
        self.says(desk, "forward port 0.00.00 0", [])
        self.refused(desk, "forward x 0.00.00 5761", NoPlace, found="x")
        self.refused(desk, "forward port 0.00.00 5761", NoMinutes, found=5761)
        self.refused(desk, "forward port 0.00.00 -5761", NoMinutes, found=-5761)
        self.refused(desk, "forward port 0.00.00 2000000001", NoMinutes, found=2000000001)
        self.refused(desk, "forward port 0.00.10 5760", Beyond, row=1)
        self.refused(desk, "forward port 0.00.00 2821", Beyond, row=0)
        self.says(desk, "forward port 0.00.00 2820", [])

    def test_shorten(self):
        desk = desk_of(["clock a 0.00.00 +1.00; 0.00.10 +1.00; 0.00.20 +0.00"])
        self.says(desk, "shorten a", [])
        self.says(desk, "log", ["clock a 0.00.00 +1.00; 0.00.20 +0.00"])
        self.refused(desk, "shorten b", NoPlace, found="b")

    def test_pick(self):
        desk = desk_of(LINES)
        log = log_at(desk)
        self.says(desk, "pick ship bell ship", [])
        self.says(desk, "log", lines_of(picked(log, ["ship", "bell"])))
        self.says(desk, "names", ["bell", "ship"])
        self.refused(desk, "pick bell x gun", NoEntry, found="x")
        self.says(desk, "pick bell", [])
        self.says(desk, "log", LINES[:3])

    def test_lean(self):
        desk = desk_of(LINES)
        self.says(desk, "lean", ["3", "2"])
        self.says(desk, "log", LINES[:8])
        self.says(desk, "lean", [])
        desk = desk_of(["entry a any", "bond a a 1", "bond a a 2", "bond a a 0"])
        self.says(desk, "lean", ["2", "1"])

    def test_tighten(self):
        desk = desk_of(LINES)
        log = log_at(desk)
        self.says(desk, "tighten", [])
        self.says(desk, "log", lines_of(tightened(log)))
        self.assertEqual(desk.say("log")[6:], ["bond gun bell 2", "bond ship gun 1", "bond ship bell 3", "bond gun gun 0"])
        desk = desk_of(["entry a within 0.00.00 0.00.09", "entry b at 0.00.05", "bond b a -99"])
        self.says(desk, "tighten", [])
        self.says(desk, "log", ["entry a within 0.00.00 0.00.09", "entry b at 0.00.05", "bond b a -4"])
        desk.say("bond b b 1")
        self.refused(desk, "tighten", NoWay, paper=("ring", [1]))

    def test_new(self):
        desk = desk_of(LINES)
        desk.say("shelve old")
        self.says(desk, "new", [])
        self.says(desk, "log", [])
        self.says(desk, "shelf", ["old"])
        self.says(desk, "fetch old", [])
        self.says(desk, "log", LINES)


class Shelf(DeskCase):
    def test_shelve_and_fetch(self):
        desk = desk_of(LINES)
        self.says(desk, "shelve one", [])
        self.says(desk, "drop gun", [])
        self.says(desk, "shelve two", [])
        self.says(desk, "shelf", ["one", "two"])
        self.says(desk, "fetch one", [])
        self.says(desk, "log", LINES)
        self.says(desk, "fetch two", [])
        self.says(desk, "names", ["bell", "ship", "noon"])

    def test_what_lies_there_goes_its_own_way(self):
        desk = desk_of(LINES)
        desk.say("shelve one")
        for line in ("drop gun", "entry new any", "clock home 0.00.00 +0.00", "unbond 0", "clock more 0.00.00 +0.00"):
            desk.say(line)
        self.assertEqual(shelved(desk), {"one": LINES})
        desk.say("fetch one")
        for line in ("entry new any", "clock more 0.00.00 +0.00", "bond new new 0", "forward home 0.00.00 5", "lean", "tighten"):
            desk.say(line)
        self.assertEqual(shelved(desk), {"one": LINES})
        for line in ("new", "entry new any", "join one", "bond new new 0", "drop gun", "clock home 0.00.00 +0.00"):
            desk.say(line)
        self.assertEqual(shelved(desk), {"one": LINES})

    def test_in_the_place_of_what_lay_there(self):
        desk = desk_of(LINES)
        desk.say("shelve one")
        desk.say("new")
        desk.say("shelve one")
        self.assertEqual(shelved(desk), {"one": []})

    def test_sorted(self):
        desk = Desk()
        for name in ("m", "z", "a", "log", "shelf", "m"):
            self.says(desk, "shelve " + name, [])
        self.says(desk, "shelf", ["a", "log", "m", "shelf", "z"])

    def test_join(self):
        desk = desk_of(["clock far 0.00.00 -1.00", "entry late any", "entry gun within 0.00.20 0.00.40", "bond late gun 1"])
        one = log_at(desk)
        desk.say("shelve one")
        desk.say("new")
        for line in LINES:
            desk.say(line)
        other = log_at(desk)
        self.says(desk, "join one", [])
        self.says(desk, "log", lines_of(put_together(other, one)))
        self.assertIn("entry gun joint within 0.00.10 0.00.30 & within 0.00.20 0.00.40", desk.say("log"))
        self.assertEqual(shelved(desk)["one"], lines_of(one))

    def test_join_refused(self):
        desk = desk_of(LINES)
        desk.say("shelve one")
        desk.say("clock port 0.00.00 +1.00; 0.00.09 +2.00")
        self.refused(desk, "join one", Unlike, place="port", moment=9)
        desk = desk_of(["entry a any"] + ["bond a a 0"] * 51)
        desk.say("shelve one")
        self.refused(desk, "join one", TooMany, many=102)

    def test_nothing_lies_there(self):
        desk = desk_of(LINES)
        for line in ("fetch one", "join one"):
            self.refused(desk, line, NoEntry, found="one")
        desk.say("shelve one")
        for line in ("fetch two", "join two", "fetch gun"):
            self.refused(desk, line, NoEntry, found=line.split(" ")[1])

    def test_two_desks_have_nothing_in_common(self):
        one, other = Desk(), Desk()
        one.say("entry a any")
        one.say("shelve here")
        self.says(other, "log", [])
        self.says(other, "shelf", [])
        self.refused(other, "fetch here", NoEntry, found="here")


class Clocks(DeskCase):
    def test_show(self):
        desk = desk_of(LINES[1:2] + LINES[:1])
        self.says(desk, "show 0.00.00", ["home 0.00.00", "port 0.01.00"])
        self.says(desk, "show 0.00.18", ["home 0.00.22", "port 0.01.18"])
        self.says(desk, "show 694444.10.40", ["home 694444.10.40", "port 694444.11.40"])
        desk.say("clock back 0.00.00 -1.00")
        self.says(desk, "show 0.00.59", ["back -1.23.59", "home 0.00.59", "port 0.01.59"])

    def test_moments(self):
        desk = desk_of(LINES)
        self.says(desk, "moments home 0.00.22", ["0.00.18", "0.00.22"])
        self.says(desk, "moments home 0.00.20", ["0.00.15", "0.00.16", "0.00.20"])
        self.says(desk, "moments home 0.00.12", [])
        self.says(desk, "moments home -6944445.13.20", [])
        self.says(desk, "moments home 6944444.10.40", [])
        self.refused(desk, "moments x 0.00.12", NoPlace, found="x")

    def test_led(self):
        desk = desk_of(LINES)
        self.says(desk, "led home port 0.00.22", ["0.00.18 0.01.18", "0.00.22 0.01.22"])
        self.says(desk, "led port home 0.01.05", ["0.00.05 0.00.05"])
        self.says(desk, "led home home 0.00.12", [])
        desk.say("clock back 0.00.00 -1.00")
        self.says(desk, "led home back 0.00.05", ["0.00.05 -1.23.05"])
        self.refused(desk, "led x y 0.00.12", NoPlace, found="x")
        self.refused(desk, "led home y 0.00.12", NoPlace, found="y")

    def test_unlike(self):
        desk = desk_of(LINES)
        self.says(desk, "unlike home port", ["0.00.00"])
        self.says(desk, "unlike home home", [])
        desk.say("clock flat 0.00.00 +0.00")
        self.says(desk, "unlike home flat", ["0.00.10"])
        self.says(desk, "unlike flat home", ["0.00.10"])
        self.refused(desk, "unlike x y", NoPlace, found="x")
        self.refused(desk, "unlike home y", NoPlace, found="y")

    def test_skipped_and_repeated(self):
        desk = desk_of(LINES)
        self.says(desk, "skipped home", ["0.00.10..0.00.14"])
        self.says(desk, "repeated home", ["0.00.20..0.00.23"])
        self.says(desk, "skipped port", [])
        self.says(desk, "repeated port", [])
        desk.say("clock one 0.00.00 +0.00; 0.00.05 +0.01; 0.00.09 +0.00")
        self.says(desk, "skipped one", ["0.00.05"])
        self.says(desk, "repeated one", ["0.00.09"])
        desk.say("clock low 0.00.00 -1.00; 0.00.05 -0.50")
        self.says(desk, "skipped low", ["-1.23.05..-1.23.14"])
        self.refused(desk, "skipped x", NoPlace, found="x")
        self.refused(desk, "repeated x", NoPlace, found="x")


class Questions(DeskCase):
    def test_spans_and_chances(self):
        desk = desk_of(LINES)
        self.says(desk, "spans bell", ["0.00.15..0.00.16", "0.00.20"])
        self.says(desk, "spans noon", ["0.00.18"])
        self.says(desk, "chances bell", ["0.00.15..0.00.16", "0.00.20"])
        self.says(desk, "chances ship", ["0.00.18..0.00.40"])
        desk.say("bond noon gun 0")
        self.says(desk, "chances bell", ["0.00.15..0.00.16"])
        self.says(desk, "chances gun", ["0.00.17..0.00.18"])
        self.refused(desk, "spans x", NoEntry, found="x")
        self.refused(desk, "chances x", NoEntry, found="x")
        desk.say("bond noon noon 1")
        self.says(desk, "chances bell", [])
        self.refused(desk, "chances x", NoEntry, found="x")

    def test_ways(self):
        desk = desk_of(LINES)
        self.says(desk, "earliest", ["bell 0.00.15", "gun 0.00.17", "ship 0.00.18", "noon 0.00.18"])
        self.says(desk, "latest", ["bell 0.00.20", "gun 0.00.30", "ship 0.00.40", "noon 0.00.18"])
        self.says(desk, "at bell 0.00.20", ["bell 0.00.20", "gun 0.00.22", "ship 0.00.23", "noon 0.00.18"])
        self.says(desk, "at ship 0.00.40", ["bell 0.00.15", "gun 0.00.17", "ship 0.00.40", "noon 0.00.18"])
        self.refused(desk, "at x 0.00.20", NoEntry, found="x")
        self.refused(desk, "at bell 0.00.17", NoWay, paper=("empty", "bell"))
        self.refused(desk, "at ship 0.00.05", NoWay)

    def test_why(self):
        desk = desk_of(LINES)
        self.says(desk, "why", ["way"])
        desk.say("bond noon bell 4")
        self.says(desk, "why", ["past 4"])
        self.refused(desk, "earliest", NoWay, paper=("past", [4]))
        self.refused(desk, "latest", NoWay, paper=("past", [4]))
        desk.say("bond bell gun -1")
        kind = desk.say("why")[0].split(" ")
        self.assertEqual((kind[0], sorted(kind[1:])), ("ring", ["0", "5"]))
        desk.say("entry none within 0.00.01 0.00.00")
        self.says(desk, "why", ["empty none"])
        for line in ("earliest", "latest", "tighten"):
            self.refused(desk, line, NoWay, paper=("empty", "none"))

    def test_a_long_paper(self):
        desk = desk_of(["entry " + name_of(number) + " within 0.00.00 0.00.09" for number in range(12)]
                       + ["bond " + name_of(number + 1) + " " + name_of(number) + " 1" for number in range(11)])
        self.says(desk, "why", ["past 0 1 2 3 4 5 6 7 8 9"])

    def test_fixed(self):
        desk = desk_of(LINES)
        self.says(desk, "fixed", ["noon"])
        desk.say("bond noon gun 1")
        self.says(desk, "fixed", ["bell", "gun", "noon"])
        desk.say("bond noon noon 1")
        self.says(desk, "fixed", [])

    def test_first_and_pairs(self):
        desk = desk_of(LINES)
        self.says(desk, "first bell gun", ["yes"])
        self.says(desk, "first gun bell", ["no"])
        self.says(desk, "first bell noon", ["no"])
        self.says(desk, "first bell bell", ["no"])
        self.says(desk, "pairs", ["bell gun", "bell ship", "gun ship"])
        self.refused(desk, "first x y", NoEntry, found="x")
        self.refused(desk, "first gun y", NoEntry, found="y")
        desk.say("bond noon noon 1")
        self.says(desk, "first bell bell", ["yes"])
        self.assertEqual(len(desk.say("pairs")), 12)
        self.refused(desk, "first gun y", NoEntry, found="y")

    def test_gap(self):
        desk = desk_of(LINES)
        self.says(desk, "gap bell gun", ["2"])
        self.says(desk, "gap gun bell", ["-15"])
        self.says(desk, "gap gun gun", ["0"])
        self.says(desk, "gap noon bell", ["-3"])
        self.refused(desk, "gap x y", NoEntry, found="x")
        self.refused(desk, "gap gun y", NoEntry, found="y")
        desk.say("bond noon noon 1")
        self.refused(desk, "gap gun y", NoEntry, found="y")
        self.refused(desk, "gap gun bell", NoWay, paper=("ring", [4]))

    def test_idle(self):
        desk = desk_of(LINES)
        for number, wanted in enumerate(("no", "no", "yes", "yes")):
            self.says(desk, "idle " + str(number), [wanted])
        self.refused(desk, "idle 4", NoBond, found=4)
        self.refused(desk, "idle 999999", NoBond, found=999999)
        self.no_line(desk, "idle 1000000")

    def test_shut(self):
        desk = desk_of(LINES)
        self.says(desk, "shut noon gun 0", ["bell 0.00.20", "gun 0.00.19..0.00.30"])
        self.says(desk, "shut bell noon 0", ["bell 0.00.15..0.00.16", "gun 0.00.17..0.00.21", "ship 0.00.18..0.00.22"])
        self.says(desk, "shut ship gun 1", [])
        self.says(desk, "shut noon noon 1", ["bell 0.00.15..0.00.16 0.00.20", "gun 0.00.17..0.00.30", "ship 0.00.18..0.00.40", "noon 0.00.18"])
        self.refused(desk, "shut x y 0", NoEntry, found="x")
        self.refused(desk, "shut gun y 0", NoEntry, found="y")
        for turn in range(96):
            desk.say("bond gun gun 0")
        self.refused(desk, "shut noon gun 0", TooMany, many=101)
        self.refused(desk, "shut noon y 0", NoEntry, found="y")
        self.says(desk, "log", LINES + ["bond gun gun 0"] * 96)

    def test_questions_change_nothing(self):
        desk = desk_of(LINES)
        desk.say("shelve here")
        asked = ("log", "names", "spans bell", "chances gun", "earliest", "latest", "at bell 0.00.20", "why", "fixed", "first bell gun",
                 "pairs", "gap bell gun", "idle 0", "shut noon gun 0", "show 0.00.18", "moments home 0.00.22", "led home port 0.00.22",
                 "unlike home port", "skipped home", "repeated home", "shelf")
        wanted = [desk.say(line) for line in asked]
        for line in asked:
            # What was told is the asker's own.
            desk.say(line).append("more")
            desk.say(line).clear()
        self.assertEqual([desk.say(line) for line in asked], wanted)
        self.says(desk, "log", LINES)
        self.assertEqual(shelved(desk), {"here": LINES})

    def test_papers_are_those_of_the_log(self):
        desk = desk_of(LINES + ["bond noon bell 4"])
        log = log_at(desk)
        for line in ("earliest", "latest", "gap gun bell", "tighten"):
            paper = self.refused(desk, line, NoWay).paper
            self.assertIs(is_paper(log, paper), True)
            paper[1].clear()
            self.assertEqual(self.refused(desk, line, NoWay).paper, ("past", [4]))


class WholeLogs(DeskCase):
    def clocks(self, way):
        return [name + " " + clock_text(moment) for name, moment in way.items()]

    def stretches(self, spans):
        return [clock_text(low) if low == high else clock_text(low) + ".." + clock_text(high) for low, high in spans]

    def test_a_full_log(self):
        log, way = full_log(91)
        names = [name for name in log.names() if not has_sifted(log.entry(name))]
        log = picked(log, names)
        desk = desk_of(lines_of(log))
        chance = random.Random(91)
        self.says(desk, "log", lines_of(log))
        self.says(desk, "names", names)
        self.says(desk, "earliest", self.clocks(earliest(log)[0]))
        self.says(desk, "latest", self.clocks(latest(log)[0]))
        self.says(desk, "pairs", [one + " " + other for one, other in first_pairs(log)])
        for name in chance.sample(names, 10):
            other = chance.choice(names)
            self.says(desk, "spans " + name, self.stretches(log.spans(name)))
            self.says(desk, "chances " + name, self.stretches(chances(log, name)))
            self.says(desk, "gap " + name + " " + other, [str(least_gap(log, name, other)[0])])
            self.says(desk, "first " + name + " " + other, ["yes" if surely_first(log, name, other) else "no"])
            lost = shut_out(log, None, [(name, other, 0)])
            self.says(desk, "shut " + name + " " + other + " 0", [" ".join([at] + self.stretches(lost[at])) for at in lost])
        for number in range(len(log.bonds())):
            self.says(desk, "idle " + str(number), ["yes" if is_idle(log, number) else "no"])
        left, taken = lean(log)
        self.says(desk, "lean", [str(number) for number in taken])
        self.says(desk, "log", lines_of(left))


def has_sifted(entry):
    parts = entry.parts() if entry.word() == "joint" else [entry]
    return any(part.word() == "sifted" for part in parts)


if __name__ == "__main__":
    unittest.main()
