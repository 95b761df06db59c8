"""Promises 17 and 5: the refusals."""

import unittest

from clonewood import errors
from clonewood.errors import WoodError

FIELDS = {
    "NoCells": (),
    "PowerGone": (),
    "Down": (),
    "NoWood": (),
    "NoWord": ("found",),
    "NoPath": ("path",),
    "NotThere": ("path",),
    "There": ("path",),
    "NotFolder": ("path",),
    "NotFile": ("path",),
    "Within": ("path",),
    "TooDeep": ("path",),
    "Crowded": ("path",),
    "NoSpan": ("at", "long"),
    "TooMany": ("many",),
    "NoFloor": ("many",),
    "Over": ("path", "needed"),
    "NoRoom": ("needed", "free"),
    "NoHead": ("name",),
    "OldHead": ("name",),
    "NotGrowth": ("name",),
    "NotMake": ("name",),
    "Rootless": ("name",),
    "Needed": ("name", "by"),
    "NoPlace": ("place",),
    "NoPiece": ("place",),
    "Spoilt": ("place",),
    "BadRow": ("at",),
    "NoBase": ("word", "stamp"),
    "NoLine": ("line",),
}


def class_of(name):
    return getattr(errors, name)


def made(name, values=("one", 2)):
    return class_of(name)(*values[:len(FIELDS[name])])


class TheClasses(unittest.TestCase):
    def test_there_are_thirty(self):
        self.assertEqual(len(FIELDS), 30)
        self.assertEqual(len({class_of(name) for name in FIELDS}), 30)

    def test_all_stand_straight_under_wood_error(self):
        self.assertEqual(WoodError.__bases__, (ValueError,))
        for name in FIELDS:
            with self.subTest(name):
                self.assertEqual(class_of(name).__bases__, (WoodError,))

    def test_each_is_a_wood_error_and_of_no_other_class(self):
        for name in FIELDS:
            error = made(name)
            with self.subTest(name):
                self.assertIsInstance(error, WoodError)
                self.assertIsInstance(error, ValueError)
                others = [other for other in FIELDS if other != name and isinstance(error, class_of(other))]
                self.assertEqual(others, [])

    def test_each_is_raised_and_taken_by_its_own_name(self):
        for name in FIELDS:
            error = made(name)
            with self.subTest(name):
                with self.assertRaises(class_of(name)) as taken:
                    raise error
                self.assertIs(taken.exception, error)


class TheFields(unittest.TestCase):
    def test_fields_have_their_names_in_the_order_told(self):
        for name, fields in FIELDS.items():
            error = made(name)
            with self.subTest(name):
                self.assertEqual(vars(error), dict(zip(fields, ("one", 2))))

    def test_fields_are_arguments_by_name_too(self):
        for name, fields in FIELDS.items():
            told = dict(zip(fields, ("one", 2)))
            with self.subTest(name):
                self.assertEqual(vars(class_of(name)(**told)), told)

    def test_what_each_tells(self):
        for name, fields in FIELDS.items():
            with self.subTest(name):
                self.assertEqual(made(name).told(), [name, *("one", 2)[:len(fields)]])

    def test_a_field_is_the_very_thing_handed_in(self):
        for name, fields in FIELDS.items():
            things = ([], {})
            error = made(name, things)
            with self.subTest(name):
                for field, thing in zip(fields, things):
                    self.assertIs(getattr(error, field), thing)
                self.assertEqual(things, ([], {}))


if __name__ == "__main__":
    unittest.main()
