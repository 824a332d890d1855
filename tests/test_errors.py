import copy
import unittest

from loopstore import errors

PLAIN = (
    "NoComers NoBound NoComings NoSpot NoWalk NoTick NoLoops NotDoubling NoWait NoTotal NoRow NoTold NoStand NoNumber "
    "NoLaying NoPlan NotKept NothingDone NotLost Over NoLoop NoWeights NoFraction OtherBounds NoLetter NoDay NoLine "
    "NoDoorings NoLong NoPrices OtherTables NoTables NoTable"
).split()
FIELDS = {
    "BadTable": ("part", "at"), "Meet": ("tick", "loop"), "TooMany": ("most",), "BadText": ("line",),
    "NoName": ("name",), "BadTree": ("at",),
}


class ErrorsTest(unittest.TestCase):
    def test_all_thirty_nine_are_there_and_no_others(self):
        self.assertEqual(len(PLAIN) + len(FIELDS), 39)
        classes = {name for name in vars(errors) if isinstance(getattr(errors, name), type)}
        self.assertEqual(classes, {"LoopError", *PLAIN, *FIELDS})

    def test_each_derives_directly_from_loop_error(self):
        self.assertEqual(errors.LoopError.__bases__, (ValueError,))
        for name in [*PLAIN, *FIELDS]:
            with self.subTest(name):
                self.assertEqual(getattr(errors, name).__bases__, (errors.LoopError,))

    def test_plain_errors_are_made_with_nothing(self):
        for name in PLAIN:
            with self.subTest(name):
                made = getattr(errors, name)
                self.assertEqual(vars(made()), {})
                self.assertRaises(TypeError, made, 1)

    def test_fields_are_kept_whatever_is_passed(self):
        things = [0, -1, 10 ** 59, "rows", None, True, [1], (1, [2]), {1: 2}, errors.NoComers(), object()]
        for name, fields in FIELDS.items():
            made = getattr(errors, name)
            for thing in things:
                with self.subTest(name, thing=thing):
                    passed = [thing] * len(fields)
                    error = made(*passed)
                    self.assertEqual(set(vars(error)), set(fields))
                    self.assertTrue(all(getattr(error, field) is thing for field in fields))
            self.assertRaises(TypeError, made)
            self.assertRaises(TypeError, made, *range(len(fields) + 1))

    def test_fields_stand_in_their_order(self):
        error = errors.BadTable("rows", 3)
        self.assertEqual((error.part, error.at), ("rows", 3))
        error = errors.Meet(5, 6)
        self.assertEqual((error.tick, error.loop), (5, 6))

    def test_errors_can_be_copied_and_caught(self):
        self.assertEqual(vars(copy.copy(errors.BadTable("rows", 3))), {"part": "rows", "at": 3})
        for caught in (errors.Meet, errors.LoopError, ValueError):
            with self.assertRaises(caught):
                raise errors.Meet(1, 2)

    def test_an_error_is_equal_to_nothing_else(self):
        self.assertNotEqual(errors.NoBound(), errors.NoComers())
        self.assertNotEqual(errors.TooMany(24), 24)


if __name__ == "__main__":
    unittest.main()
