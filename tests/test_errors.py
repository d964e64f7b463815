import unittest

from ringhues import errors

PLAIN = ["NoRing", "NoHues", "NoPlace", "NoArrows", "NoMap", "NoPaper", "Apart", "NoRow"]
WITH_FIELDS = ["NoWeb", "NoText", "TooGreat"]


class ErrorsTest(unittest.TestCase):
    def test_the_head_stands_under_value_error(self):
        self.assertEqual(errors.HueError.__bases__, (ValueError,))

    def test_each_stands_straight_under_the_head(self):
        for name in PLAIN + WITH_FIELDS:
            self.assertEqual(getattr(errors, name).__bases__, (errors.HueError,), name)

    def test_none_stands_under_another_one(self):
        for one in PLAIN + WITH_FIELDS:
            for other in PLAIN + WITH_FIELDS:
                under = issubclass(getattr(errors, one), getattr(errors, other))
                self.assertEqual(under, one == other, (one, other))

    def test_no_other_class(self):
        classes = [name for name, thing in vars(errors).items() if isinstance(thing, type)]
        self.assertEqual(sorted(classes), sorted(PLAIN + WITH_FIELDS + ["HueError"]))

    def test_plain_ones_are_made_of_nothing(self):
        for name in PLAIN:
            with self.assertRaises(errors.HueError):
                raise getattr(errors, name)()

    def test_at(self):
        for kind in (errors.NoWeb, errors.NoText):
            for at in (-1, 0, 7):
                self.assertEqual(kind(at).at, at)
                self.assertEqual(kind(at=at).at, at)
            with self.assertRaises(TypeError):
                kind()

    def test_many_and_most(self):
        for wrong in (errors.TooGreat(9, 8), errors.TooGreat(many=9, most=8), errors.TooGreat(most=8, many=9)):
            self.assertEqual((wrong.many, wrong.most), (9, 8))
        with self.assertRaises(TypeError):
            errors.TooGreat(9)

    def test_fields_are_each_objects_own(self):
        one, other = errors.NoWeb(1), errors.NoWeb(2)
        self.assertEqual((one.at, other.at), (1, 2))
