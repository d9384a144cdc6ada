"""The refusals, as the interface names them, and point [2] of them."""

import unittest

from cometorest import errors

NAMES = [
    "NoKind", "TooMany", "NoName", "NoWish", "NoLimit", "NoState", "NoPlace",
    "NoDeed", "NoRule", "NoStep", "NoSituation", "NoRound", "NoText", "NoRow",
]


class Refusals(unittest.TestCase):
    def classes(self):
        return [getattr(errors, name) for name in NAMES]

    def test_rest_error_stands_straight_under_value_error(self):
        self.assertEqual(errors.RestError.__bases__, (ValueError,))

    def test_each_stands_straight_under_rest_error(self):
        for refusal in self.classes():
            self.assertEqual(refusal.__bases__, (errors.RestError,), refusal)

    def test_none_stands_under_another_one(self):
        self.assertEqual(len(set(self.classes())), 14)
        for one in self.classes():
            for other in self.classes():
                self.assertEqual(issubclass(one, other), one is other, (one, other))

    def test_those_without_fields_are_made_of_a_text(self):
        for refusal in self.classes() + [errors.RestError]:
            if refusal is errors.NoText:
                continue
            with self.assertRaises(refusal) as caught:
                raise refusal("why not")
            self.assertEqual(str(caught.exception), "why not")
            self.assertEqual(vars(caught.exception), {}, refusal)

    def test_no_text_bears_its_line(self):
        for made in (errors.NoText(7), errors.NoText(line=7)):
            self.assertEqual(made.line, 7)
            self.assertEqual(vars(made), {"line": 7})
        self.assertEqual(errors.NoText(0).line, 0)


if __name__ == "__main__":
    unittest.main()
