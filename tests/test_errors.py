"""Promises [4], [5] and [45]: the conventions, and the errors."""

import inspect
import unittest

from secondruns import errors
from tests.samples import objects

ATTRIBUTES = {
    "BadLanguage": ("index",),
    "UnknownLabel": ("label",),
    "NoPlace": ("place",),
    "BadText": ("at",),
    "BadLine": ("line",),
    "BadRule": ("word",),
    "UnknownHole": ("hole",),
    "BadBook": ("index", "word"),
    "BadFlag": ("below",),
    "UnlikeLanguages": (),
    "UnlikeWays": (),
    "BadTree": ("tree",),
    "BadRow": ("index",),
    "NoBook": ("at",),
    "NoRule": ("index",),
    "BadCount": ("count",),
    "NoRest": ("tree",),
    "BadBar": ("at",),
    "BadName": ("name",),
    "NoMark": ("name",),
    "NothingBack": (),
    "NothingAgain": (),
}


def classes():
    return [(getattr(errors, name), names) for name, names in ATTRIBUTES.items()]


class ErrorClasses(unittest.TestCase):
    def test_run_error_is_a_direct_subclass_of_value_error(self):
        self.assertEqual(errors.RunError.__bases__, (ValueError,))
        self.assertEqual(errors.RunError.__module__, "secondruns.errors")
        error = errors.RunError()
        self.assertIsInstance(error, ValueError)
        self.assertEqual(vars(error), {})

    def test_each_one_is_a_direct_subclass_of_run_error(self):
        for made, _ in classes():
            self.assertEqual(made.__bases__, (errors.RunError,), made)
            self.assertEqual(made.__module__, "secondruns.errors")

    def test_there_are_no_other_ones(self):
        found = {name for name, thing in vars(errors).items() if inspect.isclass(thing)}
        self.assertEqual(found, set(ATTRIBUTES) | {"RunError"})

    def test_the_parameters_are_the_attributes(self):
        for made, names in classes():
            told = tuple(inspect.signature(made).parameters)
            self.assertEqual(told, names, made)

    def test_any_objects_by_position(self):
        for made, names in classes():
            for one in objects():
                passed = [one, "other"][:len(names)]
                error = made(*passed)
                self.check(error, dict(zip(names, passed)))

    def test_any_objects_by_name(self):
        for made, names in classes():
            for one in objects():
                passed = dict(zip(names, ["other", one][-len(names):]))
                self.check(made(**passed), passed)

    def check(self, error, passed):
        self.assertEqual(set(vars(error)), set(passed), error.__class__)
        for name, thing in passed.items():
            self.assertIs(getattr(error, name), thing, (error.__class__, name))

    def test_each_one_is_raised_and_caught_as_what_it_is(self):
        for made, names in classes():
            for caught in (made, errors.RunError, ValueError):
                with self.assertRaises(caught):
                    raise made(*[0, "rule"][:len(names)])

    def test_none_is_another_one(self):
        for made, names in classes():
            error = made(*[0, "rule"][:len(names)])
            for other, _ in classes():
                self.assertEqual(isinstance(error, other), made is other)
            for other in (KeyError, TypeError, IndexError, LookupError):
                self.assertNotIsInstance(error, other)

    def test_they_have_a_message_whatever_is_passed(self):
        for made, names in classes():
            for one in objects():
                self.assertIsInstance(str(made(*[one, one][:len(names)])), str)

    def test_arguments_that_are_left_out_or_too_many(self):
        for made, names in classes():
            with self.assertRaises(TypeError):
                made(*[0] * (len(names) + 1))
            if names:
                with self.assertRaises(TypeError):
                    made()


if __name__ == "__main__":
    unittest.main()
