import itertools
import random
import unittest

from foldlog.entries import At, Entry, Read, Within
from foldlog.logs import Log
from foldlog.tables import Table
from foldlog.ways import fault_of, is_way
from logsets import FOLD, LAST, a_log, free_log, log_of, name_of, told_by
from refusals import ODD_THINGS, THIRTY, a_function, deep_list


def two():
    log = Log()
    log.clock("fold", Table(FOLD))
    log.put(Read("b", "fold", 20))
    log.put(Within("a", 10, 18))
    log.bind("b", "a", 1)
    log.bind("a", "b", -6)
    return log


class Form(unittest.TestCase):
    def check(self, log, thing):
        told = fault_of(log, thing)
        self.assertIs(type(told), tuple)
        self.assertEqual(told, ("form",))
        self.assertIs(is_way(log, thing), False)

    def test_no_dict(self):
        for log in (Log(), two(), free_log(1)):
            for thing in ODD_THINGS + [deep_list(), 7, [("a", 10), ("b", 15)], log]:
                if not isinstance(thing, dict):
                    self.check(log, thing)

    def test_names_too_few_or_too_many(self):
        for thing in ({}, {"a": 10}, {"b": 15}, {"a": 10, "b": 15, "c": 3}, {"a": 10, "c": 15}, {"a": 10, "B": 15}, {"a": 10, None: 15},
                      {"a": 10, 0: 15}, {"a": 10, ("b",): 15}, {"a": 10, True: 15}, {"a": 10, a_function: 15}, {"x": 1, "y": 2}):
            self.check(two(), thing)
        self.check(Log(), {"a": 3})
        self.check(free_log(1), {})
        self.check(free_log(1), {"a": 0})

    def test_no_whole_number(self):
        for thing in [thing for thing in ODD_THINGS if isinstance(thing, bool) or not isinstance(thing, int)] + [deep_list()]:
            self.check(two(), {"a": 10, "b": thing})
            self.check(two(), {"a": thing, "b": 15})
            # A wrong moment ahead of it is told only where the form is right.
            self.check(two(), {"a": thing, "b": 3})

    def test_truths_where_they_equal_moments(self):
        log = Log()
        log.put(At("a", 1))
        log.put(At("b", 0))
        self.check(log, {"a": True, "b": 0})
        self.check(log, {"a": 1, "b": False})
        self.assertTrue(is_way(log, {"a": 1, "b": 0}))


class Moment(unittest.TestCase):
    def test_first_in_the_order_of_the_log(self):
        self.assertEqual(fault_of(two(), {"a": 9, "b": 17}), ("moment", "b"))
        self.assertEqual(fault_of(two(), {"b": 17, "a": 9}), ("moment", "b"))
        self.assertEqual(fault_of(two(), {"a": 9, "b": 16}), ("moment", "a"))
        self.assertEqual(fault_of(two(), {"a": 19, "b": 20}), ("moment", "a"))
        for number in (-1, LAST + 1, THIRTY, -THIRTY):
            self.assertEqual(fault_of(two(), {"a": number, "b": 16}), ("moment", "a"))
            self.assertEqual(fault_of(free_log(1), {"na": number}), ("moment", "na"))
            self.assertIs(is_way(free_log(1), {"na": number}), False)

    def test_an_entry_without_moments(self):
        log = two()
        log.put(Read("c", "fold", 12))
        self.assertEqual(fault_of(log, {"a": 10, "b": 15, "c": 12}), ("moment", "c"))

    def test_ahead_of_bonds(self):
        self.assertEqual(fault_of(two(), {"a": 19, "b": 15}), ("moment", "a"))


class Bond(unittest.TestCase):
    def test_first_that_is_not_kept(self):
        self.assertEqual(fault_of(two(), {"a": 15, "b": 15}), ("bond", 0))
        self.assertEqual(fault_of(two(), {"a": 13, "b": 20}), ("bond", 1))
        self.assertEqual(fault_of(two(), {"a": 14, "b": 20}), None)
        log = two()
        log.bind("a", "a", 1)
        self.assertEqual(fault_of(log, {"a": 14, "b": 20}), ("bond", 2))
        self.assertEqual(fault_of(log, {"a": 13, "b": 20}), ("bond", 1))

    def test_an_entry_with_itself(self):
        for minutes, wanted in ((-1, None), (0, None), (1, ("bond", 0)), (2000000001, ("bond", 0)), (-2000000000, None)):
            self.assertEqual(fault_of(free_log(1, [(0, 0, minutes)]), {"na": 5}), wanted)

    def test_just_so_many_minutes(self):
        log = free_log(2, [(0, 1, LAST)])
        self.assertIsNone(fault_of(log, {"na": LAST, "nb": 0}))
        self.assertEqual(fault_of(log, {"na": LAST - 1, "nb": 0}), ("bond", 0))
        self.assertEqual(fault_of(free_log(2, [(0, 1, LAST + 1)]), {"na": LAST, "nb": 0}), ("bond", 0))
        self.assertIsNone(fault_of(free_log(2, [(0, 1, -LAST)]), {"na": 0, "nb": LAST}))


class Ways(unittest.TestCase):
    def test_order_of_names_plays_no_part(self):
        for pairs in itertools.permutations([("a", 14), ("b", 20)]):
            self.assertIsNone(fault_of(two(), dict(pairs)))
            self.assertIs(is_way(two(), dict(pairs)), True)

    def test_a_log_without_entries(self):
        self.assertIsNone(fault_of(Log(), {}))
        self.assertIs(is_way(Log(), {}), True)
        log = Log()
        log.clock("here", Table([(0, 0)]))
        self.assertIs(is_way(log, {}), True)

    def test_small_logs_gone_through_whole(self):
        chance = random.Random(31)
        for turn in range(60):
            many = chance.randint(1, 3)
            moments = [chance.sample(range(5), chance.randint(0, 4)) for number in range(many)]
            bonds = [(chance.randrange(many), chance.randrange(many), chance.randint(-3, 3)) for bond in range(chance.randint(0, 4))]
            log = log_of(moments, bonds, turn)
            for values in itertools.product(range(-1, 6), repeat=many):
                wrong = [("moment", name_of(number)) for number in range(many) if values[number] not in moments[number]]
                wrong += [("bond", place) for place, bond in enumerate(bonds) if values[bond[0]] - values[bond[1]] < bond[2]]
                thing = {name_of(number): values[number] for number in range(many)}
                self.assertEqual(fault_of(log, thing), (wrong + [None])[0])
                self.assertIs(is_way(log, thing), not wrong)

    def test_log_and_thing_stay(self):
        log = a_log()
        before = told_by(log)
        thing = {name: 17 for name in log.names()}
        for value in (17, None):
            thing["any"] = value
            wanted = dict(thing)
            fault_of(log, thing)
            is_way(log, thing)
            self.assertEqual(list(thing.items()), list(wanted.items()))
        self.assertEqual(told_by(log), before)

    def test_a_new_table_makes_another_answer(self):
        log = Log()
        log.clock("here", Table([(0, 0)]))
        log.put(Read("a", "here", 20))
        log.put(Entry("b"))
        self.assertTrue(is_way(log, {"a": 20, "b": 0}))
        log.clock("here", Table([(0, 5)]))
        self.assertEqual(fault_of(log, {"a": 20, "b": 0}), ("moment", "a"))
        self.assertTrue(is_way(log, {"a": 15, "b": 0}))


if __name__ == "__main__":
    unittest.main()
