"""Point 0.7 and the interface's part sideloom/errors.py."""

import unittest

from sideloom import errors

PLAIN = (
    "NoWord", "NoPlace", "TooLarge", "NoSide", "Unlike", "Beyond",
    "NoRound", "NotReady", "NotDone", "Stuck",
)
ALL = PLAIN + ("BadText", "BadStep")


def made(name):
    kind = getattr(errors, name)
    if name == "BadText":
        return kind("words", 3)
    if name == "BadStep":
        return kind("words", 7, "side")
    return kind("words")


class Errors(unittest.TestCase):
    def test_loom_error_stands_straight_under_value_error(self):
        self.assertEqual(errors.LoomError.__bases__, (ValueError,))

    def test_each_refusal_stands_straight_under_loom_error(self):
        for name in ALL:
            with self.subTest(name):
                self.assertEqual(getattr(errors, name).__bases__, (errors.LoomError,))

    def test_no_refusal_stands_under_another_one(self):
        for name in ALL:
            for other in ALL:
                if name != other:
                    self.assertNotIsInstance(made(name), getattr(errors, other))

    def test_there_are_no_other_classes(self):
        classes = [name for name, value in vars(errors).items() if isinstance(value, type)]
        self.assertEqual(sorted(classes), sorted(ALL + ("LoomError",)))

    def test_each_is_made_raised_and_taken(self):
        for name in ALL:
            for kind in (getattr(errors, name), errors.LoomError, ValueError):
                with self.subTest(name=name, kind=kind):
                    with self.assertRaises(kind):
                        raise made(name)

    def test_loom_error_is_made_of_a_text(self):
        self.assertIsInstance(errors.LoomError("words"), ValueError)

    def test_bad_text_has_its_row(self):
        for row in (1, 2, 41, 10**30):
            self.assertEqual(errors.BadText("words", row).row, row)

    def test_bad_step_has_its_step_and_why(self):
        for at in (0, 40, 10**30):
            for why in ("many", "name", "out"):
                error = errors.BadStep("words", at, why)
                self.assertEqual((error.at, error.why), (at, why))

    def test_fields_belong_to_each_object(self):
        first, second = errors.BadText("words", 1), errors.BadText("words", 2)
        self.assertEqual((first.row, second.row), (1, 2))
        self.assertNotIn("row", vars(errors.BadText))
        self.assertNotIn("at", vars(errors.BadStep))
        self.assertNotIn("why", vars(errors.BadStep))


if __name__ == "__main__":
    unittest.main()
