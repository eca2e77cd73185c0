import unittest

from foldlog import errors
from refusals import ODD_THINGS, deep_list

FIELDS = {
    "NoSpans": ["at"], "NoText": ["at"], "NoTable": ["row"], "Beyond": ["row"], "TooMany": ["many"],
    "NoMoment": ["found"], "NoReading": ["found"], "NoShift": ["found"], "NoName": ["found"],
    "NoPlace": ["found"], "NoEntry": ["found"], "Taken": ["found"], "NoMinutes": ["found"],
    "NoBond": ["found"], "NoPaper": ["found"], "NoLine": ["found"], "NoWay": ["paper"],
    "Unlike": ["place", "moment"], "Unwritten": ["name"],
}


class Errors(unittest.TestCase):
    def test_just_these_classes(self):
        found = [name for name, thing in vars(errors).items() if isinstance(thing, type)]
        self.assertEqual(sorted(found), sorted(list(FIELDS) + ["LogError"]))

    def test_each_straight_under_log_error(self):
        self.assertEqual(errors.LogError.__bases__, (ValueError,))
        for name in FIELDS:
            self.assertEqual(getattr(errors, name).__bases__, (errors.LogError,), name)

    def test_fields_are_the_very_things(self):
        for name, fields in FIELDS.items():
            for thing in ODD_THINGS + [deep_list()]:
                things = [[thing], [thing, object()]][len(fields) - 1]
                error = getattr(errors, name)(*things)
                self.assertEqual(list(vars(error)), fields)
                for field, given in zip(fields, things):
                    self.assertIs(getattr(error, field), given)

    def test_fields_are_not_copies(self):
        paper = ("ring", [0, 1])
        error = errors.NoWay(paper)
        paper[1].append(2)
        self.assertEqual(error.paper, ("ring", [0, 1, 2]))

    def test_the_fields_are_in_their_order(self):
        error = errors.Unlike("here", 7)
        self.assertEqual((error.place, error.moment), ("here", 7))

    def test_how_many_fields(self):
        for name, fields in FIELDS.items():
            self.assertRaises(TypeError, getattr(errors, name))
            self.assertRaises(TypeError, getattr(errors, name), *([0] * (len(fields) + 1)))

    def test_log_error_is_made_of_a_text(self):
        error = errors.LogError("words")
        self.assertEqual(str(error), "words")
        self.assertEqual(vars(error), {})

    def test_all_have_words(self):
        for name, fields in FIELDS.items():
            error = getattr(errors, name)(*[deep_list() for field in fields])
            self.assertNotEqual(str(error), "")

    def test_raised_and_taken(self):
        for name, fields in FIELDS.items():
            for above in (getattr(errors, name), errors.LogError, ValueError):
                with self.assertRaises(above):
                    raise getattr(errors, name)(*fields)


if __name__ == "__main__":
    unittest.main()
