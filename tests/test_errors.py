import unittest

from ribboncast import errors

WITH_AT = ["NoHoles", "NoEnd", "NoMold", "NoPaper"]
WITH_BY = ["Tight", "Loose"]
PLAIN = ["NoCase", "NoName", "NoLayout", "NoLines", "TooMany", "NoLine", "NoText", "NoRow", "NoStep"]
ALL = WITH_AT + WITH_BY + PLAIN


def class_of(name):
    return getattr(errors, name)


class Refusals(unittest.TestCase):
    def test_there_are_fifteen(self):
        self.assertEqual(len(set(ALL)), 15)
        self.assertEqual(len({class_of(name) for name in ALL}), 15)

    def test_any_refusal_is_a_value_error(self):
        self.assertEqual(errors.CastError.__bases__, (ValueError,))

    def test_each_stands_straight_under_cast_error(self):
        for name in ALL:
            self.assertEqual(class_of(name).__bases__, (errors.CastError,), name)
            self.assertTrue(issubclass(class_of(name), ValueError), name)

    def test_none_is_another(self):
        for name in ALL:
            for other in ALL:
                if name != other:
                    self.assertFalse(issubclass(class_of(name), class_of(other)), (name, other))

    def test_each_bears_its_name(self):
        for name in ALL + ["CastError"]:
            self.assertEqual(class_of(name).__name__, name)
            self.assertEqual(class_of(name).__module__, "ribboncast.errors")

    def test_at_is_set_when_it_is_made(self):
        for name in WITH_AT:
            for at in (None, 0, 7, 399):
                self.assertEqual(class_of(name)(at).at, at, name)

    def test_by_is_set_when_it_is_made(self):
        for name in WITH_BY:
            for by in (1, 1000000):
                self.assertEqual(class_of(name)(by).by, by, name)

    def test_each_object_has_its_own_value(self):
        first, second = errors.NoHoles(3), errors.NoHoles(4)
        self.assertEqual((first.at, second.at), (3, 4))

    def test_each_is_taken_as_a_cast_error(self):
        for name in ALL:
            made = class_of(name)("words") if name in PLAIN else class_of(name)(1)
            with self.assertRaises(errors.CastError):
                raise made


if __name__ == "__main__":
    unittest.main()
