import unittest

from ribboncast.kinds import is_tuple_of, is_whole, is_whole_within


class Kinds(unittest.TestCase):
    def test_whole_numbers(self):
        for thing in (0, 1, -1, 999999999999, -999999999999):
            self.assertIs(is_whole(thing), True, thing)

    def test_truths_and_other_things_are_no_whole_numbers(self):
        for thing in (True, False, None, "", "1", [], [1], (), (1,), 1.0):
            self.assertIs(is_whole(thing), False, thing)

    def test_whole_numbers_within_bounds(self):
        told = [thing for thing in range(-5, 6) if is_whole_within(thing, -2, 3)]
        self.assertEqual(told, [-2, -1, 0, 1, 2, 3])
        for thing in (True, False, None, "0", [0], (0,)):
            self.assertIs(is_whole_within(thing, -2, 3), False, thing)

    def test_tuples_of_so_many(self):
        self.assertIs(is_tuple_of((), 0), True)
        self.assertIs(is_tuple_of((1, None), 2), True)
        for thing in ((), (1,), (1, 2, 3), [1, 2], "ab", None, 2, True):
            self.assertIs(is_tuple_of(thing, 2), False, thing)


if __name__ == "__main__":
    unittest.main()
