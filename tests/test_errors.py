"""The classes of "The interface", each straight under its own, with the field what."""

import inspect
import unittest

from ripepicks import errors

LISTED = {
    ValueError: "BadFruit BadLot Twice NotRow Astray Clash BadPicking Against BadRow NotLiking",
    LookupError: "NoFruit NoRow NoLiking NoPicking NoDeed NoPlace",
    RuntimeError: "Stays Bare",
    TypeError: "BadDeed",
}
THINGS = [0, 7, -1, 10 ** 5000, None, True, "", "fig", "a" * 30, ("a", 0, 1), ["a", "b"], (("a", "b"), ["a"]), {"a": 1}]


def listed():
    """Pairs (class, the class that it's listed under)."""
    return [(getattr(errors, name), base) for base, names in LISTED.items() for name in names.split()]


class Errors(unittest.TestCase):
    def test_straight_under_the_listed_class(self):
        for error, base in listed():
            self.assertEqual(error.__bases__, (base,), error)

    def test_no_others(self):
        there = {name for name, each in vars(errors).items() if inspect.isclass(each)}
        self.assertEqual(there, {error.__name__ for error, base in listed()})

    def test_what_by_place_and_by_name(self):
        for error, base in listed():
            for thing in THINGS:
                self.assertEqual(vars(error(thing)), {"what": thing})
                self.assertEqual(vars(error(what=thing)), {"what": thing})

    def test_made_with_just_one_thing(self):
        for error, base in listed():
            with self.assertRaises(TypeError):
                error()
            with self.assertRaises(TypeError):
                error(1, 2)

    def test_made_in_the_class_itself(self):
        for error, base in listed():
            self.assertIn("__init__", vars(error))

    def test_raised_and_caught(self):
        for error, base in listed():
            with self.assertRaises(base) as caught:
                raise error(what=["a"])
            self.assertIs(type(caught.exception), error)
            self.assertEqual(caught.exception.what, ["a"])


if __name__ == "__main__":
    unittest.main()
