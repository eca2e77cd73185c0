import itertools
import random
import unittest

from foldlog.chances import all_chances
from foldlog.entries import At, Entry, Joint, Read, Sifted, Within
from foldlog.errors import NoBond, NoEntry, NoMinutes, NoPlace, Taken, TooMany
from foldlog.firsts import least_gap
from foldlog.idle import breaking, is_idle, lean, opposed, shut_out, tightened
from foldlog.logs import Log
from foldlog.papers import paper_of
from foldlog.spans import both, has
from foldlog.ways import is_way
from framesets import all_ways, small_cases
from logsets import LAST, a_log, free_log, full_log, log_of, numbers_in, spans_by_hand, told_by, within
from paperchecks import check_no_way
from refusals import ODD_THINGS, THIRTY, a_function, deep_list, no_way, refuses

LEAST, MOST = -2000000000, 2000000001
NO_BONDS = [-1, THIRTY, -THIRTY, True, False, None, "0", [0], (0,), {}, a_function, deep_list()]


def same_but_bonds(case, told, log):
    # Another log with the same places, tables, names and entries.
    case.assertIs(type(told), Log)
    case.assertIsNot(told, log)
    case.assertEqual({**told_by(told), "bonds": None}, {**told_by(log), "bonds": None})


def check_apart(case, log, call):
    # What is done to the one of two logs changes nothing in the other.
    before = told_by(log)
    told = call(log)
    wanted = told_by(told)
    told.put(Entry("zz"))
    told.bind("zz", "zz", 0)
    case.assertEqual(told_by(log), before)
    told = call(log)
    log.put(Entry("yy"))
    log.bind("yy", "yy", 0)
    case.assertEqual(told_by(told), wanted)


class Opposed(unittest.TestCase):
    def test_each_bond(self):
        log = a_log()
        before = told_by(log)
        for number, bond in enumerate(log.bonds()):
            told = opposed(log, number)
            same_but_bonds(self, told, log)
            wanted = log.bonds()
            wanted[number] = (bond[1], bond[0], 1 - bond[2])
            self.assertEqual(told.bonds(), wanted)
            self.assertEqual(told_by(opposed(told, number)), before)
        self.assertEqual(told_by(log), before)

    def test_minutes_at_either_end(self):
        log = free_log(2, [(0, 1, LEAST), (0, 1, MOST), (1, 1, 0)])
        self.assertEqual(opposed(log, 0).bonds()[0], ("nb", "na", MOST))
        self.assertEqual(opposed(log, 1).bonds()[1], ("nb", "na", LEAST))
        self.assertEqual(opposed(log, 2).bonds()[2], ("nb", "nb", 1))

    def test_of_any_moments_just_one_is_kept(self):
        log = log_of([range(5), range(5)], [(0, 1, 2)])
        other = opposed(log, 0)
        for one, two in itertools.product(range(5), repeat=2):
            self.assertNotEqual(is_way(log, {"na": one, "nb": two}), is_way(other, {"na": one, "nb": two}))

    def test_a_hundred_bonds(self):
        log, way = full_log(51)
        for number in (0, 50, 99):
            self.assertEqual(len(opposed(log, number).bonds()), 100)
            same_but_bonds(self, opposed(log, number), log)

    def test_refused(self):
        for log in (Log(), free_log(2), a_log(), free_log(1, [(0, 0, 1)])):
            before = told_by(log)
            for call in (opposed, breaking, is_idle):
                for thing in NO_BONDS + [len(log.bonds()), log] + [thing for thing in ODD_THINGS if not isinstance(thing, int)]:
                    refuses(self, NoBond, "found", thing, call, log, thing)
            self.assertEqual(told_by(log), before)

    def test_the_two_have_nothing_in_common(self):
        check_apart(self, a_log(), lambda log: opposed(log, 0))


class Idle(unittest.TestCase):
    def check(self, log, number):
        # Whether the bond is idle; the way that breaks it alone, or the paper.
        before = told_by(log)
        other = opposed(log, number)
        idle = is_idle(log, number)
        self.assertIs(type(idle), bool)
        if idle:
            check_no_way(self, log, other, breaking, log, number)
        else:
            told = breaking(log, number)
            self.assertIs(type(told), dict)
            self.assertEqual(list(told), log.names())
            self.assertTrue(is_way(other, told))
        self.assertEqual(told_by(log), before)
        return idle

    def test_ordinary(self):
        log = within([9, 9, 9], [(1, 0, 3), (2, 1, 3), (2, 0, 6), (2, 0, 5), (2, 0, 7), (0, 0, 0)])
        self.assertEqual([self.check(log, number) for number in range(6)], [False, False, True, True, False, True])
        self.assertEqual(breaking(log, 0), {"na": 0, "nb": 0, "nc": 7})
        self.assertEqual(breaking(log, 4), {"na": 0, "nb": 3, "nc": 6})

    def test_a_bond_that_stands_twice(self):
        log = free_log(2, [(0, 1, 5), (0, 1, 5)])
        self.assertEqual([self.check(log, number) for number in range(2)], [True, True])
        log.unbind(0)
        self.assertIs(self.check(log, 0), False)

    def test_an_entry_with_itself(self):
        for minutes, wanted in ((0, True), (-1, True), (LEAST, True), (1, False), (MOST, False)):
            self.assertIs(self.check(free_log(1, [(0, 0, minutes)]), 0), wanted)
        # With another ring every bond is idle.
        self.assertIs(self.check(free_log(1, [(0, 0, 1), (0, 0, 2)]), 1), True)

    def test_by_the_moments_alone(self):
        log = log_of([range(5), range(7, 9)], [(1, 0, 3), (1, 0, 4), (1, 0, LEAST), (1, 0, MOST)])
        self.assertEqual([self.check(log, number) for number in range(4)], [True, True, True, False])
        log.unbind(3)
        self.assertEqual([self.check(log, number) for number in range(3)], [True, False, True])

    def test_small_logs_gone_through_whole(self):
        told = {True: 0, False: 0}
        for turn, case in enumerate(small_cases(161, 500)):
            moments, bonds = case
            log = log_of(moments, bonds, turn)
            for number in range(len(bonds)):
                rest = bonds[:number] + bonds[number + 1:]
                later, earlier, minutes = bonds[number]
                broken = [values for values in all_ways(moments, rest) if values[later] < values[earlier] + minutes]
                idle = self.check(log, number)
                self.assertIs(idle, broken == [])
                if broken:
                    self.assertEqual(list(breaking(log, number).values()), [min(numbers) for numbers in zip(*broken)])
                told[idle] += 1
        self.assertTrue(all(many > 200 for many in told.values()), told)

    def test_agrees_with_the_least_gap(self):
        # In a log with a way a bond is idle just where the others lead as far.
        for turn, case in enumerate(small_cases(162, 200)):
            log = log_of(case[0], case[1], turn)
            for number, (later, earlier, minutes) in enumerate(log.bonds()):
                rest = log.copied()
                rest.unbind(number)
                if paper_of(rest) is None:
                    self.assertIs(is_idle(log, number), least_gap(rest, earlier, later)[0] >= minutes)

    def test_full_log(self):
        log, way = full_log(52)
        found = [self.check(log, number) for number in range(100)]
        self.assertIn(True, found)
        self.assertIn(False, found)

    def test_told_is_the_askers_own(self):
        log = within([9, 9], [(1, 0, 3)])
        breaking(log, 0).clear()
        self.assertEqual(breaking(log, 0), {"na": 0, "nb": 0})
        log = free_log(1, [(0, 0, 0)])
        no_way(self, breaking, log, 0)[1].clear()
        self.assertEqual(no_way(self, breaking, log, 0), ("ring", [0]))


class Lean(unittest.TestCase):
    def check(self, log):
        before = told_by(log)
        told = lean(log)
        self.assertEqual(told_by(log), before)
        self.assertIs(type(told), tuple)
        left, taken = told
        same_but_bonds(self, left, log)
        self.assertEqual((type(taken), taken), (list, sorted(set(taken), reverse=True)))
        self.assertEqual(left.bonds(), [bond for number, bond in enumerate(log.bonds()) if number not in taken])
        self.assertFalse(any(is_idle(left, number) for number in range(len(left.bonds()))))
        self.assertIs(paper_of(left) is None, paper_of(log) is None)
        # One by one, on what is left by then.
        rest, wanted = log.copied(), []
        for number in reversed(range(len(log.bonds()))):
            if is_idle(rest, number):
                rest.unbind(number)
                wanted.append(number)
        self.assertEqual((taken, left.bonds()), (wanted, rest.bonds()))
        return taken

    def test_ordinary(self):
        self.assertEqual(self.check(Log()), [])
        self.assertEqual(self.check(free_log(2)), [])
        self.assertEqual(self.check(a_log()), [4])
        self.assertEqual(self.check(within([9, 9, 9], [(2, 0, 6), (1, 0, 3), (2, 1, 3), (2, 0, 5), (0, 0, 0)])), [4, 3, 0])

    def test_of_equal_bonds_the_first_stays(self):
        self.assertEqual(self.check(free_log(2, [(0, 1, 5), (0, 1, 5), (0, 1, 5)])), [2, 1])

    def test_a_log_without_a_way(self):
        for log in (free_log(2, [(0, 1, 5), (1, 0, -4), (0, 0, 0)]), free_log(1, [(0, 0, 1), (0, 0, 2)]),
                    within([3, 3, 3], [(1, 0, 4), (2, 1, 1)]), within([-1, 3], [(1, 1, 0), (0, 1, 5)])):
            self.assertIsNotNone(paper_of(log))
            self.assertNotEqual(self.check(log), [])
        log = within([-1, 3], [(1, 1, 0), (0, 1, 5)])
        self.assertEqual(self.check(log), [1, 0])

    def test_small_logs_have_the_same_ways(self):
        fewer = 0
        for turn, case in enumerate(small_cases(163, 300)):
            moments, bonds = case
            log = log_of(moments, bonds, turn)
            taken = self.check(log)
            left = [bond for number, bond in enumerate(bonds) if number not in taken]
            self.assertEqual(all_ways(moments, left), all_ways(moments, bonds))
            fewer += len(taken) > 0
        self.assertGreater(fewer, 100)

    def test_full_log(self):
        log, way = full_log(53)
        self.assertGreater(len(self.check(log)), 5)

    def test_the_two_have_nothing_in_common(self):
        check_apart(self, a_log(), lambda log: lean(log)[0])
        log = a_log()
        lean(log)[1].clear()
        self.assertEqual(lean(log)[1], [4])


class Tightened(unittest.TestCase):
    def check(self, log):
        before = told_by(log)
        told = tightened(log)
        self.assertEqual(told_by(log), before)
        same_but_bonds(self, told, log)
        wanted = [(later, earlier, least_gap(log, earlier, later)[0]) for later, earlier, minutes in log.bonds()]
        self.assertEqual(told.bonds(), wanted)
        for old, new in zip(log.bonds(), told.bonds()):
            self.assertGreaterEqual(new[2], old[2])
        return [minutes for later, earlier, minutes in told.bonds()]

    def test_ordinary(self):
        self.assertEqual(self.check(Log()), [])
        self.assertEqual(self.check(a_log()), [3, -5, 0, -1, 0])
        log = within([9, 9, 9], [(1, 0, 3), (2, 1, 3), (2, 0, 4), (0, 2, -99), (1, 1, -5)])
        self.assertEqual(self.check(log), [3, 3, 6, -9, 0])
        self.assertEqual(self.check(free_log(2, [(0, 1, LEAST)])), [-LAST])
        self.assertEqual(self.check(free_log(2, [(0, 1, LAST)])), [LAST])

    def test_small_logs_gone_through_whole(self):
        tighter = 0
        for turn, case in enumerate(small_cases(164, 500)):
            moments, bonds = case
            log = log_of(moments, bonds, turn)
            ways = all_ways(moments, bonds)
            if not ways:
                check_no_way(self, log, log, tightened, log)
                continue
            told = self.check(log)
            wanted = [min(values[later] - values[earlier] for values in ways) for later, earlier, minutes in bonds]
            self.assertEqual(told, wanted)
            other = [(later, earlier, least) for (later, earlier, minutes), least in zip(bonds, told)]
            self.assertEqual(all_ways(moments, other), ways)
            tighter += other != bonds
        self.assertGreater(tighter, 100)

    def test_full_log(self):
        log, way = full_log(54)
        self.check(log)
        self.assertTrue(is_way(tightened(log), way))

    def test_refused(self):
        for log in (free_log(2, [(0, 1, 5), (1, 0, -4)]), within([3, -1], []), within([3, 3], [(1, 0, 4)])):
            self.assertEqual(check_no_way(self, log, log, tightened, log), paper_of(log))

    def test_the_two_have_nothing_in_common(self):
        check_apart(self, a_log(), tightened)


class ShutOut(unittest.TestCase):
    def check(self, log, entry, bonds):
        before, handed = told_by(log), list(bonds)
        told = shut_out(log, entry, bonds)
        self.assertEqual((told_by(log), bonds), (before, handed))
        self.assertIs(type(told), dict)
        self.assertEqual(list(told), [name for name in log.names() if name in told])
        copy = log.copied()
        if entry is not None:
            copy.put(entry)
        for bond in bonds:
            copy.bind(*bond)
        first, then = all_chances(log), all_chances(copy)
        for name in log.names():
            lost = told.get(name, [])
            self.assertEqual(both(lost, then[name]), [])
            self.assertEqual(spans_by_parts(lost, then[name]), first[name])
        self.assertNotIn([], told.values())
        return told

    def test_ordinary(self):
        log = within([9, 9], [])
        self.assertEqual(self.check(log, None, [("nb", "na", 3)]), {"na": [(7, 9)], "nb": [(0, 2)]})
        self.assertEqual(self.check(log, At("x", 5), [("na", "x", 0)]), {"na": [(0, 4)]})
        self.assertEqual(self.check(log, At("x", 5), [("na", "x", 0), ("x", "na", 0), ("nb", "na", 4)]),
                         {"na": [(0, 4), (6, 9)], "nb": [(0, 8)]})

    def test_nothing_is_shut_out(self):
        log = a_log()
        self.assertEqual(self.check(log, None, []), {})
        self.assertEqual(self.check(log, Entry("x"), []), {})
        self.assertEqual(self.check(log, At("x", 0), [("x", "x", 0), ("at", "x", 17)]), {})
        self.assertEqual(self.check(Log(), None, []), {})
        self.assertEqual(self.check(Log(), At("x", 0), [("x", "x", 1)]), {})

    def test_the_copy_has_no_way(self):
        log = a_log()
        first = all_chances(log)
        self.assertEqual(self.check(log, None, [("at", "at", 1)]), first)
        self.assertEqual(self.check(log, Within("x", 1, 0), []), first)
        self.assertEqual(self.check(log, None, [("at", "within", -2)]), first)
        # Where there was none before, nothing is lost.
        self.assertEqual(self.check(free_log(2, [(0, 0, 1)]), None, [("na", "nb", 1)]), {})

    def test_an_entry_that_was_read(self):
        log = a_log()
        told = self.check(log, Read("x", "fold", 20), [("read", "x", 1)])
        self.assertEqual(told, {"read": [(15, 15)], "any": [(10, 10)]})

    def test_small_logs_gone_through_whole(self):
        chance = random.Random(165)
        losing = 0
        for turn, case in enumerate(small_cases(165, 300)):
            moments, bonds = case
            log = log_of(moments, bonds, turn)
            more = [(chance.randrange(len(moments)), chance.randrange(len(moments)), chance.randint(-2, 2)) for bond in range(2)]
            names = log.names()
            told = self.check(log, None, [(names[later], names[earlier], minutes) for later, earlier, minutes in more])
            first, then = all_ways(moments, bonds), all_ways(moments, bonds + more)
            for place, name in enumerate(names):
                lost = {values[place] for values in first} - {values[place] for values in then}
                self.assertEqual(told.get(name, []), spans_by_hand(lost))
            losing += told != {}
        self.assertGreater(losing, 50)

    def test_full_log(self):
        log, way = full_log(55)
        log.unbind(0)
        log.drop(log.names()[-1])
        name = log.names()[0]
        told = self.check(log, At("mid", 2000), [(name, "mid", 0)])
        self.assertTrue(all(not has(told.get(other, []), way[other]) for other in log.names()) or way[name] < 2000)

    def test_the_entry_is_refused(self):
        log = a_log()
        before = told_by(log)
        for thing in [thing for thing in ODD_THINGS if thing is not None] + [deep_list(), log, "at"]:
            refuses(self, NoEntry, "found", thing, shut_out, log, thing, [("x", "x", None)])
        refuses(self, Taken, "found", log.entry("at").name, shut_out, log, Read("at", "nowhere", 5), [("x", "x", 0)])
        entry = Joint("new", [Entry("new"), Read("new", "nowhere", 5), Read("new", "else", 5)])
        refuses(self, NoPlace, "found", entry.places()[0], shut_out, log, entry, [("x", "x", 0)])
        refuses(self, TooMany, "many", 61, shut_out, free_log(60), Entry("new"), [("x", "x", 0)])
        self.assertEqual(told_by(log), before)

    def test_a_bond_is_refused(self):
        log = a_log()
        before = told_by(log)
        for thing in ODD_THINGS + ["x", deep_list(), log]:
            refuses(self, NoEntry, "found", thing, shut_out, log, None, [("at", "at", 0), (thing, thing, None), ("at", "at", None)])
            refuses(self, NoEntry, "found", thing, shut_out, log, None, [("at", thing, None)])
        for thing in [LEAST - 1, MOST + 1, True, None, "5", [5], THIRTY, a_function]:
            refuses(self, NoMinutes, "found", thing, shut_out, log, None, [("at", "at", 0), ("at", "any", thing), ("x", "x", 0)])
        refuses(self, TooMany, "many", 101, shut_out, free_log(1, [(0, 0, 0)] * 99), None, [("na", "na", 0), ("na", "na", 0)])
        refuses(self, NoMinutes, "found", None, shut_out, free_log(1, [(0, 0, 0)] * 100), None, [("na", "na", None)])
        self.assertEqual(told_by(log), before)

    def test_bonds_of_the_entry(self):
        refuses(self, NoEntry, "found", "x", shut_out, a_log(), None, [("at", "x", 0)])
        self.check(a_log(), Entry("x"), [("at", "x", 0)])

    def test_a_full_log(self):
        log = free_log(59, [(0, 0, 0)] * 99)
        self.assertEqual(self.check(log, At("x", 5), [("na", "x", 0)]), {"na": [(0, 4)]})

    def test_told_is_the_askers_own(self):
        log = within([9, 9], [])
        told = shut_out(log, None, [("nb", "na", 3)])
        told["na"].clear()
        told.clear()
        self.assertEqual(shut_out(log, None, [("nb", "na", 3)]), {"na": [(7, 9)], "nb": [(0, 2)]})

    def test_sifted(self):
        log = Log()
        log.put(Sifted("odd", Within("x", 0, 9), lambda moment: moment % 2 == 1))
        self.assertEqual(self.check(log, At("x", 4), [("x", "odd", 0)]), {"odd": [(5, 5), (7, 7), (9, 9)]})


def spans_by_parts(one, other):
    # Of two that have nothing in common the numbers of both, by hand where few.
    many = one + other
    if all(high - low < 10 ** 4 for low, high in many):
        return spans_by_hand(numbers_in(many))
    told = []
    for low, high in sorted(many):
        if told and told[-1][1] == low - 1:
            told[-1] = (told[-1][0], high)
        else:
            told.append((low, high))
    return told


if __name__ == "__main__":
    unittest.main()
