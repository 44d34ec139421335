"""Promise 2: the refusals."""

import unittest

from friendfoe import errors

NAMES = ["NoText", "NoFrame", "NoTie", "NoRow", "NotFlat", "TooMany"]


class Refusals(unittest.TestCase):
    def test_all_stand_right_under_weberror(self):
        self.assertEqual(errors.WebError.__bases__, (ValueError,))
        for name in NAMES:
            self.assertEqual(getattr(errors, name).__bases__, (errors.WebError,), name)

    def test_each_is_made_with_a_text(self):
        for name in ["WebError"] + NAMES:
            refusal = getattr(errors, name)("why it is so")
            self.assertEqual(str(refusal), "why it is so")
            self.assertIsInstance(refusal, errors.WebError)
            self.assertIsInstance(refusal, ValueError)

    def test_none_is_of_the_five_other_classes(self):
        for name in NAMES:
            refusal = getattr(errors, name)("x")
            for other in NAMES:
                self.assertEqual(isinstance(refusal, getattr(errors, other)), name == other, (name, other))

    def test_each_is_caught_by_its_name(self):
        for name in NAMES:
            with self.assertRaises(getattr(errors, name)):
                raise getattr(errors, name)("x")

    def test_weberror_itself_is_none_of_them(self):
        for name in NAMES:
            self.assertNotIsInstance(errors.WebError("x"), getattr(errors, name))


if __name__ == "__main__":
    unittest.main()
