import unittest

from cratefit import errors

PLAIN = (
    "BadSide", "BadTurn", "NoText", "TooMany", "Ring", "NoWeighing", "NoPicker",
    "NoSheet", "NoDrawing", "NoDeed", "NoWare", "Full", "NothingDone",
)
WITH_AT = ("TooWide", "Hangs")
WITH_WHY = ("BadPlan", "BadPacking")


class TheRefusals(unittest.TestCase):
    def test_crate_error_is_a_value_error(self):
        self.assertEqual(errors.CrateError.__bases__, (ValueError,))

    def test_each_stands_straight_beneath_crate_error_and_beneath_no_other(self):
        for name in PLAIN + WITH_AT + WITH_WHY:
            with self.subTest(name=name):
                self.assertEqual(getattr(errors, name).__bases__, (errors.CrateError,))

    def test_no_two_names_are_one_class(self):
        classes = [getattr(errors, name) for name in PLAIN + WITH_AT + WITH_WHY]
        self.assertEqual(len(set(classes)), 17)
        for name in PLAIN + WITH_AT + WITH_WHY:
            self.assertEqual(getattr(errors, name).__name__, name)

    def test_plain_ones_can_be_raised_with_words(self):
        for name in PLAIN:
            with self.subTest(name=name):
                with self.assertRaises(errors.CrateError):
                    raise getattr(errors, name)("words")

    def test_at(self):
        for name in WITH_AT:
            for at in (0, 7):
                with self.subTest(name=name, at=at):
                    with self.assertRaises(errors.CrateError) as caught:
                        raise getattr(errors, name)(at)
                    self.assertEqual(caught.exception.at, at)

    def test_why(self):
        for name in WITH_WHY:
            for why in (("count", 3), ("over", 0, 1)):
                with self.subTest(name=name, why=why):
                    with self.assertRaises(errors.CrateError) as caught:
                        raise getattr(errors, name)(why)
                    self.assertEqual(caught.exception.why, why)


if __name__ == "__main__":
    unittest.main()
