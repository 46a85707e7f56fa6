"""[1.1], "Files errors": the classes of error and their fields."""

import unittest

from evenhands import errors

FIELDS = {
    "BadGroup": ("at",), "NoName": (), "NoPerson": ("name",), "NoPage": ("name",),
    "Twice": ("name",), "Barred": (), "Idle": (), "Uneven": ("gives", "gets"), "NoCall": ("at",),
    "NoNumber": (), "NoWay": (), "TooMany": (), "Spoils": ("stuck",), "NoDeed": ("at",),
    "NoBack": (), "NoText": ("row",),
}
THINGS = (0, 7, -1, None, True, "ann", "", ("ann", "bob"), (), ["ann"], [], {"x": 1}, {})


class TestClasses(unittest.TestCase):
    def test_hand_error_is_a_value_error(self):
        self.assertEqual(errors.HandError.__bases__, (ValueError,))
        self.assertEqual(str(errors.HandError("why")), "why")

    def test_each_is_a_hand_error(self):
        for name in FIELDS:
            with self.subTest(name):
                self.assertTrue(issubclass(getattr(errors, name), errors.HandError))

    def test_none_is_under_another(self):
        for name in FIELDS:
            for other in FIELDS:
                if name != other:
                    under = issubclass(getattr(errors, name), getattr(errors, other))
                    self.assertFalse(under, (name, other))

    def test_there_are_no_others(self):
        found = [name for name, thing in vars(errors).items() if isinstance(thing, type)]
        self.assertEqual(sorted(found), sorted([*FIELDS, "HandError"]))


class TestFields(unittest.TestCase):
    def made(self, name, things):
        return getattr(errors, name)(*things)

    def test_one_field_by_place(self):
        for name, fields in FIELDS.items():
            if len(fields) == 1:
                for thing in THINGS:
                    self.assertIs(getattr(self.made(name, [thing]), fields[0]), thing, name)

    def test_one_field_by_name(self):
        for name, fields in FIELDS.items():
            if len(fields) == 1:
                for thing in THINGS:
                    error = getattr(errors, name)(**{fields[0]: thing})
                    self.assertIs(getattr(error, fields[0]), thing, name)

    def test_uneven_has_both(self):
        for error in (errors.Uneven(3, 5), errors.Uneven(gets=5, gives=3)):
            self.assertEqual((error.gives, error.gets), (3, 5))

    def test_the_others_are_made_of_a_text(self):
        for name, fields in FIELDS.items():
            if fields == ():
                self.assertEqual(str(self.made(name, ["why so"])), "why so", name)

    def test_none_is_made_of_fewer_or_more(self):
        for name, fields in FIELDS.items():
            if fields:
                for many in (len(fields) - 1, len(fields) + 1):
                    with self.assertRaises(TypeError, msg=name):
                        self.made(name, [1] * many)

    def test_each_is_raised_and_caught(self):
        for name, fields in FIELDS.items():
            with self.assertRaises(errors.HandError):
                raise self.made(name, list(fields) or ["why"])


if __name__ == "__main__":
    unittest.main()
