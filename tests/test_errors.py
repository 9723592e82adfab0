"""[11] and what [4] says of errors."""

import unittest

from support import ANY
from unwaited import errors

FIELDS = {"Dead": "ring", "NoCommand": "line", "NoTask": "name", "NoText": "place", "TooMany": "most",
          "Unlike": "step", "Wrong": "place"}


class Errors(unittest.TestCase):
    def test_bases(self):
        self.assertEqual(errors.LoopError.__bases__, (ValueError,))
        for name in [*FIELDS, "Nothing"]:
            self.assertEqual(getattr(errors, name).__bases__, (errors.LoopError,), name)

    def test_there_are_no_others(self):
        told = {name for name, thing in vars(errors).items() if isinstance(thing, type)}
        self.assertEqual(told, {*FIELDS, "Nothing", "LoopError"})

    def test_fields_are_the_objects_themselves(self):
        for name, field in FIELDS.items():
            for thing in ANY:
                self.assertIs(getattr(getattr(errors, name)(thing), field), thing)

    def test_lists_are_not_copied(self):
        ring = [1]
        error = errors.Dead(ring)
        ring.append(2)
        self.assertEqual(error.ring, [1, 2])

    def test_nothing_has_no_argument(self):
        self.assertIsInstance(errors.Nothing(), errors.LoopError)
        self.assertRaises(TypeError, errors.Nothing, 1)

    def test_others_have_one_argument(self):
        for name in FIELDS:
            self.assertRaises(TypeError, getattr(errors, name))
            self.assertRaises(TypeError, getattr(errors, name), 1, 2)

    def test_they_are_caught_by_name(self):
        with self.assertRaises(errors.LoopError):
            raise errors.Wrong(0)
        with self.assertRaises(ValueError):
            raise errors.Nothing()


if __name__ == "__main__":
    unittest.main()
