"""What the program promises as a whole: its parts agree with one another."""

import itertools
import random
import unittest

from foldlog.chances import all_chances, fixed
from foldlog.earliest import earliest, walked_up
from foldlog.errors import NoWay
from foldlog.firsts import first_pairs, least_gap, other_order, surely_first
from foldlog.idle import breaking, is_idle, lean, shut_out, tightened
from foldlog.joins import picked, put_together
from foldlog.latest import latest, walked_down
from foldlog.lattice import greater, lesser, room
from foldlog.logtext import log_text, read_log
from foldlog.papers import is_paper, paper_of
from foldlog.pins import pinned, way_at
from foldlog.shortest import alike, first_unlike, shortened
from foldlog.shorts import is_short, short_paper
from foldlog.spans import has, less
from foldlog.ways import is_way
from framesets import small_cases
from logsets import full_log, log_of, some_table, told_by


def paper_or_none(call, *arguments):
    try:
        call(*arguments)
    except NoWay as refusal:
        return refusal.paper
    return None


def bound(log, *bonds):
    told = log.copied()
    for bond in bonds:
        told.bind(*bond)
    return told


class Logs(unittest.TestCase):
    def logs(self, seed, turns):
        return [log_of(case[0], case[1], turn) for turn, case in enumerate(small_cases(seed, turns))]

    def check_short(self, log, paper):
        self.assertIs(is_paper(log, paper), True)
        short = short_paper(log, paper)
        self.assertIs(is_paper(log, short), True)
        self.assertIs(is_short(log, short), True)
        self.assertEqual(short_paper(log, short), short)
        if paper[0] != "past":
            self.assertEqual(short, paper)

    def test_a_way_or_a_paper(self):
        for log in self.logs(201, 300) + [full_log(201)[0]]:
            papers = [paper_of(log)] + [paper_or_none(call, log) for call in (earliest, latest, room, tightened)]
            for paper in papers:
                self.assertEqual(paper, papers[0])
            if papers[0] is not None:
                self.check_short(log, papers[0])
                self.assertTrue(all(spans == [] for spans in all_chances(log).values()))
                continue
            (first, ups), (last, downs) = earliest(log), latest(log)
            self.assertEqual((walked_up(log, ups), walked_down(log, downs)), (first, last))
            self.assertEqual((lesser(last, first), greater(first, last)), (first, last))
            self.assertEqual(room(log), {name: (first[name], last[name]) for name in first})

    def test_lesser_and_greater(self):
        chance = random.Random(202)
        for log in self.logs(202, 100) + [full_log(202)[0]]:
            found = [(name, moment) for name, spans in all_chances(log).items() for low, high in spans for moment in (low, high)]
            for one, other in itertools.product(chance.sample(found, min(len(found), 4)), repeat=2):
                for call in (lesser, greater):
                    self.assertTrue(is_way(log, call(way_at(log, *one), way_at(log, *other))))

    def test_each_entry_at_each_moment(self):
        for log in self.logs(203, 80):
            told = all_chances(log)
            for name, moment in itertools.product(log.names(), range(8)):
                paper = paper_or_none(way_at, log, name, moment)
                self.assertIs(paper is None, has(told[name], moment))
                if paper is None:
                    self.assertTrue(is_way(log, way_at(log, name, moment)))
                else:
                    self.check_short(pinned(log, name, moment), paper)
            self.assertEqual(fixed(log), [name for name in told if len(told[name]) == 1 and told[name][0][0] == told[name][0][1]])

    def test_surely_first(self):
        for log in self.logs(204, 150):
            pairs = first_pairs(log)
            for one, other in itertools.product(log.names(), repeat=2):
                first = surely_first(log, one, other)
                if one != other:
                    self.assertIs((one, other) in pairs, first)
                paper = paper_or_none(other_order, log, one, other)
                self.assertIs(paper is not None, first)
                if first:
                    self.check_short(bound(log, (one, other, 0)), paper)
                if paper_of(log) is None:
                    self.assertIs(least_gap(log, one, other)[0] >= 1, first)
                # That other was later tells nothing new just where it is sure.
                self.assertIs(is_idle(bound(log, (other, one, 1)), len(log.bonds())), first)

    def test_idle_bonds(self):
        for log in self.logs(205, 150):
            for number, (later, earlier, minutes) in enumerate(log.bonds()):
                paper = paper_or_none(breaking, log, number)
                self.assertIs(paper is not None, is_idle(log, number))
                rest = log.copied()
                rest.unbind(number)
                if paper is not None:
                    self.assertEqual(all_chances(rest), all_chances(log))
                    self.assertEqual(first_pairs(rest), first_pairs(log))
                if paper_of(rest) is None:
                    self.assertIs(least_gap(rest, earlier, later)[0] >= minutes, paper is not None)

    def test_lean_and_tightened_logs_tell_the_same(self):
        for log in self.logs(206, 150) + [full_log(206)[0]]:
            others = [lean(log)[0]] + ([tightened(log)] if paper_of(log) is None else [])
            for other in others:
                self.assertEqual(all_chances(other), all_chances(log))
                self.assertEqual(first_pairs(other), first_pairs(log))

    def test_a_bond_put_in_and_taken_out(self):
        chance = random.Random(207)
        for log in self.logs(207, 150):
            bond = (chance.choice(log.names()), chance.choice(log.names()), chance.randint(-3, 3))
            before, after = all_chances(log), all_chances(bound(log, bond))
            lost = shut_out(log, None, [bond])
            for name in before:
                self.assertEqual(less(after[name], before[name]), [])
                self.assertEqual(lost.get(name, []), less(before[name], after[name]))

    def test_logs_put_together(self):
        logs = self.logs(208, 120)
        for one, other in zip(logs[::2], logs[1::2]):
            told = put_together(one, other)
            for name in told.names():
                for log in (one, other):
                    if name in log.names():
                        self.assertEqual(less(all_chances(told)[name], all_chances(log)[name]), [])
            for log in (one, other):
                if paper_of(told) is None:
                    self.assertTrue(is_way(log, {name: earliest(told)[0][name] for name in log.names()}))
            self.assertEqual(told_by(picked(told, told.names())), told_by(told))

    def test_a_log_and_itself_have_the_same_ways(self):
        for log in self.logs(209, 60):
            self.assertEqual(all_chances(put_together(log, log)), all_chances(log))

    def test_the_same_question_again(self):
        for log in self.logs(210, 30) + [full_log(210)[0]]:
            before = told_by(log)
            for call in (paper_of, all_chances, fixed, first_pairs):
                self.assertEqual(call(log), call(log))
            self.assertEqual(lean(log)[1], lean(log)[1])
            self.assertEqual(told_by(log), before)

    def test_read_again(self):
        for log in self.logs(211, 60):
            names = [name for name in log.names() if log.entry(name).word() != "sifted"]
            log = picked(log, names)
            told = read_log(log_text(log))
            self.assertEqual(paper_of(told), paper_of(log))
            self.assertEqual(all_chances(told), all_chances(log))


class Clocks(unittest.TestCase):
    def test_each_reading_has_just_its_moments(self):
        chance = random.Random(221)
        for turn in range(20):
            table = some_table(chance)
            shown = {}
            for moment in range(5000):
                shown.setdefault(table.reading(moment), []).append(moment)
            for reading in range(-400, 4500):
                self.assertEqual(table.moments(reading), shown.get(reading, []))

    def test_shortest_is_one_and_the_same(self):
        chance = random.Random(222)
        for turn in range(200):
            one, other = some_table(chance), some_table(chance)
            moment = first_unlike(one, other)
            self.assertIs(alike(one, other), moment is None)
            self.assertIs(shortened(one).rows() == shortened(other).rows(), moment is None)
            if moment is not None:
                self.assertNotEqual(one.reading(moment), other.reading(moment))
                self.assertTrue(moment == 0 or one.reading(moment - 1) == other.reading(moment - 1))


if __name__ == "__main__":
    unittest.main()
