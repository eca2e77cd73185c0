import copy
import random
import unittest

from foldlog.errors import NoSpans, NoText
from foldlog.spans import (
    are_spans, both, either, first_from, has, how_many, last_to, less, moved, spans_in, spans_of, spans_text, turned,
)
from refusals import ODD_THINGS, THIRTY, a_function, deep_list, refuses


def spans_by_hand(numbers):
    # Another way to the same: run by run over the numbers themselves.
    told = []
    for number in sorted(numbers):
        if told and told[-1][1] + 1 == number:
            told[-1] = (told[-1][0], number)
        else:
            told.append((number, number))
    return told


def numbers_of(stretches):
    return {number for low, high in stretches for number in range(low, high + 1)}


def some_spans(many):
    # All subsets of a few neighbouring numbers, as spans.
    return [spans_by_hand([place - 2 for place in range(many) if bits >> place & 1]) for bits in range(1 << many)]


class AreSpans(unittest.TestCase):
    def test_spans(self):
        for thing in ([], [(0, 0)], [(-5, -3), (-1, 7)], [(0, 1), (3, 3)], [(-THIRTY, THIRTY)],
                      [(-THIRTY, -THIRTY), (THIRTY, THIRTY)]):
            self.assertIs(are_spans(thing), True, thing)

    def test_no_spans(self):
        things = [
            [(1, 0)], [(0, 1), (2, 3)], [(0, 1), (1, 3)], [(0, 5), (2, 3)], [(4, 5), (0, 1)], [(0, 0), (0, 0)],
            [(0, 1), (3, 2)], [(0,)], [(0, 1, 2)], [()], [[0, 1]], [0], [None], [(0, None)], [(None, 0)], [(True, 2)],
            [(0, True)], [(False, False)], [("0", "1")], [("a", "b")], [(0, 1), (5, 6), (7, 8)], [(0, 1), None], [(0, 1), (3, "a")],
            ((0, 1),), {(0, 1): 1}, "0..1", [deep_list()], [(deep_list(), 1)], [{}],
        ]
        odd = [thing for thing in ODD_THINGS if thing not in ([], [(0, 0)])]
        for thing in things + odd + [deep_list()]:
            self.assertIs(are_spans(thing), False)


class SpansOf(unittest.TestCase):
    def test_ordinary(self):
        self.assertEqual(spans_of([(5, 7), (0, 2), (9, 9)]), [(0, 2), (5, 7), (9, 9)])

    def test_touching_and_over_one_another(self):
        self.assertEqual(spans_of([(3, 4), (0, 2)]), [(0, 4)])
        self.assertEqual(spans_of([(0, 9), (2, 3)]), [(0, 9)])
        self.assertEqual(spans_of([(0, 9), (2, 3), (5, 12)]), [(0, 12)])
        self.assertEqual(spans_of([(0, 1), (3, 4)]), [(0, 1), (3, 4)])
        self.assertEqual(spans_of([(1, 1), (1, 1), (1, 1)]), [(1, 1)])

    def test_empty_ones(self):
        self.assertEqual(spans_of([]), [])
        self.assertEqual(spans_of([(1, 0), (THIRTY, -THIRTY)]), [])
        self.assertEqual(spans_of([(0, 1), (9, 2), (3, 3)]), [(0, 1), (3, 3)])

    def test_thirty_figures(self):
        self.assertEqual(spans_of([(THIRTY, THIRTY), (-THIRTY, THIRTY - 1)]), [(-THIRTY, THIRTY)])

    def test_every_pair_of_stretches(self):
        stretches = [(low, high) for low in range(-3, 4) for high in range(-3, 4)]
        for one in stretches:
            for other in stretches:
                self.assertEqual(spans_of([one, other]), spans_by_hand(numbers_of([one, other])))

    def test_by_chance(self):
        chance = random.Random(1)
        for turn in range(300):
            stretches = [(chance.randint(-30, 30), chance.randint(-30, 30)) for place in range(chance.randint(0, 9))]
            self.assertEqual(spans_of(stretches), spans_by_hand(numbers_of(stretches)))

    def test_a_thousand(self):
        stretches = [(4 * place, 4 * place + 2) for place in range(1000)]
        self.assertEqual(spans_of(list(reversed(stretches))), stretches)

    def test_no_list(self):
        for thing in [thing for thing in ODD_THINGS if not isinstance(thing, list)] + [((0, 1),)]:
            refuses(self, NoSpans, "at", 0, spans_of, thing)

    def test_place_of_the_first_wrong_thing(self):
        wrong = [
            None, 0, "01", [0, 1], (), (0,), (0, 1, 2), (None, 0), (0, None), (True, 1), (0, False), ("0", "1"),
            a_function, {}, deep_list(), (0, deep_list()),
        ]
        for thing in wrong:
            refuses(self, NoSpans, "at", 0, spans_of, [thing])
            refuses(self, NoSpans, "at", 2, spans_of, [(0, 1), (5, 3), thing, thing])

    def test_what_is_handed_in_stays(self):
        stretches = [(5, 7), (0, 2), (9, 1), (3, 3)]
        told = spans_of(stretches)
        self.assertEqual(stretches, [(5, 7), (0, 2), (9, 1), (3, 3)])
        told.append((99, 99))
        self.assertEqual(stretches, [(5, 7), (0, 2), (9, 1), (3, 3)])
        self.assertEqual(spans_of(stretches), [(0, 3), (5, 7)])

    def test_spans_are_told_as_another_list(self):
        spans = [(0, 1), (5, 6)]
        told = spans_of(spans)
        self.assertEqual(told, spans)
        self.assertIsNot(told, spans)


class OfTwo(unittest.TestCase):
    def check(self, one, other):
        first, second = numbers_of(one), numbers_of(other)
        self.assertEqual(either(one, other), spans_by_hand(first | second), (one, other))
        self.assertEqual(both(one, other), spans_by_hand(first & second), (one, other))
        self.assertEqual(less(one, other), spans_by_hand(first - second), (one, other))

    def test_every_two_of_few_numbers(self):
        few = some_spans(6)
        for one in few:
            for other in few:
                self.check(one, other)

    def test_by_chance(self):
        chance = random.Random(2)
        for turn in range(300):
            self.check(*[spans_by_hand(chance.sample(range(-40, 40), chance.randint(0, 60))) for side in range(2)])

    def test_thirty_figures(self):
        whole = [(-THIRTY, THIRTY)]
        self.assertEqual(either(whole, [(0, 0)]), whole)
        self.assertEqual(both(whole, [(0, 0), (THIRTY, THIRTY)]), [(0, 0), (THIRTY, THIRTY)])
        self.assertEqual(less(whole, [(0, 0)]), [(-THIRTY, -1), (1, THIRTY)])
        self.assertEqual(less(whole, [(-THIRTY, -THIRTY), (THIRTY, THIRTY)]), [(1 - THIRTY, THIRTY - 1)])
        self.assertEqual(less([(0, 0)], whole), [])

    def test_a_thousand(self):
        one = [(4 * place, 4 * place + 1) for place in range(1000)]
        other = [(4 * place + 1, 4 * place + 2) for place in range(1000)]
        self.check(one, other)
        self.check(other, one)

    def test_handed_in_stays_and_told_is_new(self):
        for call in (either, both, less):
            for one, other in (([(0, 5), (8, 9)], [(3, 8)]), ([(0, 5)], []), ([], [(0, 5)]), ([], []), ([(0, 5)], [(0, 5)])):
                kept = copy.deepcopy((one, other))
                told = call(one, other)
                wanted = list(told)
                self.assertIsNot(told, one)
                self.assertIsNot(told, other)
                told.append((99, 99))
                self.assertEqual((one, other), kept)
                self.assertEqual(call(one, other), wanted)

    def test_a_list_with_itself(self):
        one = [(0, 5), (8, 9)]
        self.assertEqual(either(one, one), [(0, 5), (8, 9)])
        self.assertEqual(both(one, one), [(0, 5), (8, 9)])
        self.assertEqual(less(one, one), [])
        self.assertEqual(one, [(0, 5), (8, 9)])


class OfOne(unittest.TestCase):
    def test_every_question_of_few_numbers(self):
        for spans in some_spans(7):
            numbers = numbers_of(spans)
            self.assertEqual(how_many(spans), len(numbers))
            self.assertEqual(turned(spans), spans_by_hand([-number for number in numbers]))
            for number in range(-5, 8):
                self.assertIs(has(spans, number), number in numbers)
                self.assertEqual(first_from(spans, number), min([one for one in numbers if one >= number], default=None))
                self.assertEqual(last_to(spans, number), max([one for one in numbers if one <= number], default=None))
                self.assertEqual(moved(spans, number), spans_by_hand([one + number for one in numbers]))

    def test_thirty_figures(self):
        whole = [(-THIRTY, -5), (5, THIRTY)]
        self.assertEqual(how_many(whole), 2 * (THIRTY - 4))
        for number in (-THIRTY, THIRTY, 5, -5):
            self.assertIs(has(whole, number), True)
            self.assertEqual(first_from(whole, number), number)
            self.assertEqual(last_to(whole, number), number)
        for number in (-4, 0, 4, -THIRTY - 1, THIRTY + 1):
            self.assertIs(has(whole, number), False)
        self.assertEqual(first_from([(0, 1)], -THIRTY), 0)
        self.assertIsNone(first_from([(0, 1)], THIRTY))
        self.assertEqual(last_to([(0, 1)], THIRTY), 1)
        self.assertIsNone(last_to([(0, 1)], -THIRTY))
        self.assertEqual(moved([(0, 1)], -THIRTY), [(-THIRTY, 1 - THIRTY)])
        self.assertEqual(moved([(0, THIRTY)], THIRTY), [(THIRTY, 2 * THIRTY)])
        self.assertEqual(turned(whole), whole)

    def test_a_thousand(self):
        spans = [(3 * place, 3 * place + 1) for place in range(1000)]
        self.assertEqual(how_many(spans), 2000)
        for number in range(-2, 3002):
            inside = 0 <= number < 3000 and number % 3 != 2
            self.assertIs(has(spans, number), inside)

    def test_other_things_do_not_lie_in_spans(self):
        no_numbers = [thing for thing in ODD_THINGS if isinstance(thing, bool) or not isinstance(thing, int)]
        for thing in no_numbers + [deep_list()]:
            self.assertIs(has([(0, 1)], thing), False)
            self.assertIs(has([(-THIRTY, THIRTY)], thing), False)
            self.assertIs(has([], thing), False)

    def test_handed_in_stays_and_told_is_new(self):
        for spans in ([], [(-1, 1)], [(-5, -3), (0, 2)]):
            for call in (lambda given: moved(given, 0), lambda given: moved(given, 3), turned):
                kept = list(spans)
                told = call(spans)
                wanted = list(told)
                told.append((99, 99))
                self.assertEqual(spans, kept)
                self.assertEqual(call(spans), wanted)


class Texts(unittest.TestCase):
    def test_examples(self):
        examples = {
            "": [], "0": [(0, 0)], "-3..7 9 12..40": [(-3, 7), (9, 9), (12, 40)], "-5": [(-5, -5)], "-5..-3": [(-5, -3)],
            "0..1": [(0, 1)], "-1..0 2": [(-1, 0), (2, 2)],
            "-%d..%d" % (THIRTY, THIRTY): [(-THIRTY, THIRTY)],
            "-%d %d" % (THIRTY, THIRTY): [(-THIRTY, -THIRTY), (THIRTY, THIRTY)],
        }
        for text, spans in examples.items():
            self.assertEqual(spans_text(spans), text)
            self.assertEqual(spans_in(text), spans)

    def test_written_and_read_again(self):
        for spans in some_spans(8):
            self.assertEqual(spans_in(spans_text(spans)), spans)

    def test_each_text_that_is_read_is_the_one_that_is_written(self):
        words = ["", "0", "1", "2", "-1", "-0", "00", "3", "0..1", "0..0", "1..0", "-2..-1", "2..3", "5..9", "."]
        for one in words:
            for other in words:
                for text in (one, one + " " + other, one + "  " + other):
                    try:
                        spans = spans_in(text)
                    except NoText:
                        continue
                    self.assertTrue(are_spans(spans))
                    self.assertEqual(spans_text(spans), text)

    def test_wrong_words(self):
        words = [
            "-", "-0", "00", "01", "+1", "a", "1a", "1\n", "\n1", "1.", ".1", "1.2", "1..", "..1", "..", "1...2", "1..2..3",
            "1..1", "2..1", "-1..-1", "-1..-2", "-0..1", "0..01", "0..-0", "1..+2", "1..2\n", "1,", "1;", "1.. 2", "1_0",
            str(THIRTY + 1), str(-THIRTY - 1), "0..%d" % (THIRTY + 1), "%d..0" % (-THIRTY - 1), "1" * 39000, "0.." + "1" * 39000,
        ]
        for word in words:
            refuses(self, NoText, "at", 0, spans_in, word)
            refuses(self, NoText, "at", 2, spans_in, "-90 -80..-70 " + word)
            refuses(self, NoText, "at", 0, spans_in, word + " -90 b")

    def test_blanks(self):
        refuses(self, NoText, "at", 0, spans_in, " ")
        refuses(self, NoText, "at", 0, spans_in, " 1")
        refuses(self, NoText, "at", 1, spans_in, "1 ")
        refuses(self, NoText, "at", 1, spans_in, "1  3")
        refuses(self, NoText, "at", 0, spans_in, "\n")
        refuses(self, NoText, "at", 0, spans_in, "1\n3")
        refuses(self, NoText, "at", 0, spans_in, "1\t3")

    def test_words_too_near_to_the_word_ahead(self):
        for text in ("1 1", "1 2", "1..3 4", "1..3 4..5", "1..3 3", "1..3 2", "1..3 0", "5 3", "5..6 1..2", "-1 0", "-3..-1 0..4"):
            refuses(self, NoText, "at", 1, spans_in, text)
        refuses(self, NoText, "at", 2, spans_in, "1 3 4 a")
        self.assertEqual(spans_in("1..3 5"), [(1, 3), (5, 5)])
        self.assertEqual(spans_in("-3 -1"), [(-3, -3), (-1, -1)])

    def test_no_text(self):
        for thing in [thing for thing in ODD_THINGS if not isinstance(thing, str)] + [deep_list()]:
            refuses(self, NoText, "at", 0, spans_in, thing)

    def test_long_texts(self):
        spans = [(4 * place, 4 * place + 1) for place in range(1000)]
        self.assertEqual(spans_in(spans_text(spans)), spans)
        refuses(self, NoText, "at", 0, spans_in, " " * 40000)

    def test_told_is_new(self):
        told = spans_in("")
        told.append((1, 1))
        self.assertEqual(spans_in(""), [])
        spans = [(1, 2)]
        spans_text(spans)
        self.assertEqual(spans, [(1, 2)])


if __name__ == "__main__":
    unittest.main()
