"""Every class of dunnage/errors.py."""

import unittest

from dunnage import errors

NAMES = [
    "BadName", "Taken", "BadCourse", "BadPlace", "BadWeight", "Full", "Crowded", "NoThing", "InUse", "NoSack",
    "NoCord", "BadCord", "BadDeed", "BadAsk", "BadWay", "BadDay", "NoEntry", "NothingThere", "NoText",
]


class ErrorsTest(unittest.TestCase):
    def test_the_top_one_is_a_value_error(self):
        self.assertEqual(errors.YardError.__bases__, (ValueError,))

    def test_each_other_stands_straight_under_it(self):
        for name in NAMES:
            with self.subTest(name):
                self.assertEqual(getattr(errors, name).__name__, name)
                self.assertEqual(getattr(errors, name).__bases__, (errors.YardError,))

    def test_none_stands_under_another(self):
        for name in NAMES:
            for other in NAMES:
                if name != other:
                    self.assertFalse(issubclass(getattr(errors, name), getattr(errors, other)), (name, other))

    def test_there_are_no_more(self):
        classes = [name for name in vars(errors) if isinstance(getattr(errors, name), type)]
        self.assertEqual(sorted(classes), sorted(NAMES + ["YardError"]))

    def test_no_text_tells_its_row(self):
        for at in (1, 2, 301):
            with self.assertRaises(errors.NoText) as caught:
                raise errors.NoText(at)
            self.assertEqual(caught.exception.at, at)

    def test_two_of_them_have_nothing_to_do_with_one_another(self):
        first, second = errors.NoText(4), errors.NoText(5)
        self.assertEqual((first.at, second.at), (4, 5))


if __name__ == "__main__":
    unittest.main()
