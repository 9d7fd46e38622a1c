"""The refusals, as the interface tells them."""

import unittest

from huedties import errors


class Errors(unittest.TestCase):

    def test_all_stand_straight_under_hue_error(self):
        self.assertEqual(errors.HueError.__bases__, (ValueError,))
        for name in ("NoPlace", "NoTie", "NoRow", "NoFan", "TooFew", "NoStep", "NotTwoSides", "ShortList", "BadRow"):
            self.assertEqual(getattr(errors, name).__bases__, (errors.HueError,), name)

    def test_made_with_words(self):
        for name in ("HueError", "NoPlace", "NoTie", "NoRow", "NoFan", "TooFew"):
            self.assertEqual(str(getattr(errors, name)("some words")), "some words")

    def test_made_with_their_field(self):
        self.assertEqual(errors.NoStep(7).place, 7)
        self.assertEqual(errors.NotTwoSides([2, 0, 1]).ring, [2, 0, 1])
        self.assertEqual(errors.ShortList(3).tie, 3)
        self.assertEqual(errors.BadRow(4).line, 4)

    def test_the_ring_is_the_askers_own(self):
        ring = [0, 1, 2]
        refusal = errors.NotTwoSides(ring)
        ring.append(3)
        self.assertEqual(refusal.ring, [0, 1, 2])
        self.assertIs(type(errors.NotTwoSides((0, 1, 2)).ring), list)

    def test_taken_as_value_errors(self):
        for refusal in (errors.NoPlace("x"), errors.NoStep(0), errors.NotTwoSides([]), errors.BadRow(0)):
            with self.assertRaises(ValueError):
                raise refusal


if __name__ == "__main__":
    unittest.main()
