import unittest

from oxhide import errors
from oxhide.errors import OxError

WITH_AT = ["BadRun", "BadWord", "BadMove", "BadText"]
PLAIN = [
    "TooLong", "Unlike", "BadNumber", "NoNumber", "NotHome", "NotMet", "BadName", "Taken",
    "Full", "NoWalker", "Tied", "Ring", "LogFull", "NoEntry", "NothingLeft",
]


class ErrorsTest(unittest.TestCase):
    def test_ox_error_stands_straight_under_value_error(self):
        self.assertEqual(OxError.__bases__, (ValueError,))

    def test_each_refusal_stands_straight_under_ox_error(self):
        for name in WITH_AT + PLAIN:
            with self.subTest(name):
                self.assertEqual(getattr(errors, name).__bases__, (OxError,))

    def test_each_refusal_has_its_own_name(self):
        for name in WITH_AT + PLAIN:
            with self.subTest(name):
                self.assertEqual(getattr(errors, name).__name__, name)

    def test_at_is_kept_as_a_field(self):
        for name in WITH_AT:
            refusal = getattr(errors, name)
            with self.subTest(name):
                self.assertEqual(refusal(0).at, 0)
                self.assertEqual(refusal(at=17).at, 17)
                first, second = refusal(1), refusal(2)
                self.assertEqual((first.at, second.at), (1, 2))

    def test_at_is_wanted(self):
        for name in WITH_AT:
            with self.subTest(name), self.assertRaises(TypeError):
                getattr(errors, name)()

    def test_the_others_are_made_without_anything(self):
        for name in PLAIN:
            refusal = getattr(errors, name)
            with self.subTest(name), self.assertRaises(refusal):
                raise refusal()


if __name__ == "__main__":
    unittest.main()
