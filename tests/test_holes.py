import copy
import itertools
import unittest

from ribboncast.errors import CastError, NoHoles
from ribboncast.holes import is_row_of_holes, is_sign, is_size, read_holes, strike
from things import ODD_THINGS, all_signs, holes_by_the_document

SIZES = [(2, 2), (2, 15), (15, 2), (3, 2), (4, 7), (14, 15), (15, 15)]


class Sizes(unittest.TestCase):
    def test_each_pair_of_numbers_round_the_bounds(self):
        for wide in range(-3, 20):
            for high in range(-3, 20):
                due = 2 <= wide <= 15 and 2 <= high <= 15
                self.assertIs(is_size((wide, high)), due, (wide, high))

    def test_great_numbers(self):
        for thing in ((2, 999999999999), (-999999999999, 2), (2, -15)):
            self.assertIs(is_size(thing), False, thing)

    def test_truths_are_no_numbers(self):
        for thing in ((True, 2), (2, True), (False, 2), (2, False), (True, True)):
            self.assertIs(is_size(thing), False, thing)

    def test_other_things_in_a_numbers_place(self):
        for part in (None, "2", "", [2], (2,), (2, 2)):
            self.assertIs(is_size((part, 2)), False, part)
            self.assertIs(is_size((2, part)), False, part)

    def test_lists_and_other_many(self):
        for thing in ([2, 2], [15, 15], (), (2,), (2, 2, 2), ((2, 2),), [(2, 2)], "22", "ab"):
            self.assertIs(is_size(thing), False, thing)

    def test_odd_things(self):
        for thing in ODD_THINGS:
            self.assertIs(is_size(thing), False)


class Signs(unittest.TestCase):
    def test_all_signs_of_each_size(self):
        for size in SIZES:
            for sign in all_signs(size):
                self.assertIs(is_sign(size, sign), True, (size, sign))

    def test_places_and_cams_round_the_bounds(self):
        for size in [(2, 2), (3, 5), (15, 15)]:
            wide, high = size
            for column, row in itertools.product(range(-2, 18), range(-2, 18)):
                due = 0 <= column < wide and 0 <= row < high
                self.assertIs(is_sign(size, ("blank", column, row)), due)
                for cam in range(-3, 4):
                    sign = ("letter", column, row, cam)
                    self.assertIs(is_sign(size, sign), due and -1 <= cam <= 1, (size, sign))

    def test_columns_and_rows_are_not_taken_for_one_another(self):
        self.assertIs(is_sign((3, 5), ("blank", 2, 4)), True)
        self.assertIs(is_sign((3, 5), ("blank", 4, 2)), False)
        self.assertIs(is_sign((3, 5), ("letter", 2, 4, 0)), True)
        self.assertIs(is_sign((3, 5), ("letter", 4, 2, 0)), False)

    def test_steps_round_the_bounds(self):
        for size in SIZES:
            for step in list(range(-3, 19)) + [-999999999999, 999999999999]:
                for kind in ("coarse", "fine"):
                    self.assertIs(is_sign(size, (kind, step)), 0 <= step <= 14, (kind, step))

    def test_something_left_out_or_put_in(self):
        whole = [("letter", 1, 1, 1), ("blank", 1, 1), ("coarse", 1), ("fine", 1), ("struck",)]
        for sign in whole:
            for size in [(2, 2), (15, 15)]:
                self.assertIs(is_sign(size, sign), True)
                for at in range(len(sign)):
                    self.assertIs(is_sign(size, sign[:at] + sign[at + 1:]), False, sign)
                for at in range(len(sign) + 1):
                    for more in (0, 1, None, True, "", ()):
                        self.assertIs(is_sign(size, sign[:at] + (more,) + sign[at:]), False, sign)

    def test_other_things_in_a_numbers_place(self):
        for sign in [("letter", 1, 1, 1), ("blank", 1, 1), ("coarse", 1), ("fine", 1)]:
            for at in range(1, len(sign)):
                for part in (True, False, None, "1", "", [1], (1,)):
                    wrong = sign[:at] + (part,) + sign[at + 1:]
                    self.assertIs(is_sign((3, 3), wrong), False, wrong)

    def test_other_things_in_the_first_place(self):
        for first in ("Letter", "letters", "", " ", "l", None, True, 0, [], ["struck"], ("struck",)):
            for rest in ((), (1,), (1, 1), (1, 1, 1)):
                self.assertIs(is_sign((3, 3), (first,) + rest), False, (first, rest))

    def test_lists_are_no_signs(self):
        for sign in all_signs((2, 2)):
            self.assertIs(is_sign((2, 2), list(sign)), False)
            self.assertIs(is_sign((2, 2), (sign,)), False)

    def test_odd_things(self):
        for thing in ODD_THINGS:
            self.assertIs(is_sign((15, 15), thing), False)


class Striking(unittest.TestCase):
    def test_written_rows(self):
        for size, sign, row in [
            ((4, 3), ("letter", 0, 0, 0), (0, 14)),
            ((4, 3), ("letter", 2, 1, 1), (2, 15, 29)),
            ((4, 3), ("letter", 2, 1, -1), (2, 15, 30)),
            ((4, 3), ("letter", 3, 1, 0), (15,)),
            ((4, 3), ("letter", 2, 2, 0), (2,)),
            ((4, 3), ("letter", 3, 2, 0), ()),
            ((4, 3), ("letter", 3, 2, 1), (29,)),
            ((4, 3), ("letter", 3, 2, -1), (30,)),
            ((4, 3), ("blank", 1, 0), (1, 14, 28)),
            ((4, 3), ("blank", 3, 2), (28,)),
            ((2, 2), ("letter", 0, 1, 0), (0,)),
            ((2, 2), ("letter", 1, 0, 0), (14,)),
            ((15, 15), ("letter", 13, 13, 1), (13, 27, 29)),
            ((15, 15), ("letter", 14, 13, 1), (27, 29)),
            ((15, 15), ("letter", 13, 14, -1), (13, 30)),
            ((15, 15), ("blank", 14, 14), (28,)),
            ((2, 2), ("coarse", 0), (14, 28, 29)),
            ((2, 2), ("coarse", 13), (27, 28, 29)),
            ((2, 2), ("coarse", 14), (28, 29)),
            ((2, 2), ("fine", 0), (14, 28, 30)),
            ((2, 2), ("fine", 13), (27, 28, 30)),
            ((2, 2), ("fine", 14), (28, 30)),
            ((2, 2), ("struck",), (28, 29, 30)),
        ]:
            self.assertEqual(strike(size, sign), row, (size, sign))
            self.assertEqual(read_holes(size, row), sign, (size, sign))

    def test_each_sign_of_each_size_there_and_back(self):
        for size in SIZES:
            for sign in all_signs(size):
                row = strike(size, sign)
                self.assertEqual(row, holes_by_the_document(size, sign), (size, sign))
                self.assertIsInstance(row, tuple)
                self.assertEqual(read_holes(size, row), sign, (size, sign))

    def test_rows_are_whole_numbers_that_rise(self):
        for size in SIZES:
            for sign in all_signs(size):
                row = strike(size, sign)
                self.assertTrue(all(isinstance(hole, int) and 0 <= hole <= 30 for hole in row))
                self.assertEqual(list(row), sorted(set(row)))

    def test_no_two_signs_of_a_size_have_one_row(self):
        for size in SIZES:
            signs = all_signs(size)
            self.assertEqual(len({strike(size, sign) for sign in signs}), len(signs), size)

    def test_the_same_is_told_each_time(self):
        for sign in all_signs((3, 4)):
            self.assertEqual(strike((3, 4), sign), strike((3, 4), sign))


class Rows(unittest.TestCase):
    def test_rows_of_holes_need_be_no_signs(self):
        for row in [(), (0,), (30,), (0, 30), (0, 1, 2), (29, 30), tuple(range(31))]:
            self.assertIs(is_row_of_holes(row), True, row)

    def test_other_things_are_no_rows(self):
        for thing in [(-1,), (31,), (0, 31), (-1, 0), (1, 0), (0, 0), (0, 2, 1), (0, 1, 1), (True,), (False, 1), (0, True),
                      (None,), ("0",), ([0],), [], [0], [0, 1], None, "", 0, True]:
            self.assertIs(is_row_of_holes(thing), False, thing)


class Reading(unittest.TestCase):
    def refused(self, size, thing):
        with self.assertRaises(NoHoles) as told:
            read_holes(size, thing)
        self.assertIsNone(told.exception.at)
        self.assertIsInstance(told.exception, CastError)

    def test_all_rows_of_up_to_four_holes(self):
        # No sign has more than three holes.
        for size in [(2, 2), (3, 7), (15, 15)]:
            known = {holes_by_the_document(size, sign): sign for sign in all_signs(size)}
            for many in range(5):
                for row in itertools.combinations(range(31), many):
                    try:
                        told = read_holes(size, row)
                    except NoHoles as e:
                        told = e.at
                    self.assertEqual(told, known.get(row), (size, row))

    def test_what_is_told_is_a_sign(self):
        for sign in all_signs((3, 4)):
            told = read_holes((3, 4), strike((3, 4), sign))
            self.assertIs(is_sign((3, 4), told), True)

    def test_the_last_column_and_row_have_no_hole(self):
        self.refused((3, 4), (2,))
        self.refused((3, 4), (17,))
        self.refused((3, 4), (2, 17))
        self.refused((3, 4), (2, 28))
        self.refused((2, 2), (1,))
        self.refused((2, 2), (15,))
        self.assertEqual(read_holes((3, 4), (1, 16)), ("letter", 1, 2, 0))
        self.assertEqual(read_holes((3, 4), ()), ("letter", 2, 3, 0))

    def test_a_row_hangs_on_its_size(self):
        self.assertEqual(read_holes((15, 15), ()), ("letter", 14, 14, 0))
        self.assertEqual(read_holes((2, 2), ()), ("letter", 1, 1, 0))
        self.assertEqual(read_holes((15, 15), (5, 20)), ("letter", 5, 6, 0))
        self.refused((5, 15), (5, 20))
        self.refused((15, 7), (5, 20))

    def test_two_columns_two_rows_and_marks_that_are_no_signs(self):
        for row in [(0, 1), (14, 15), (0, 1, 14), (0, 14, 15), (29, 30), (0, 29, 30), (0, 14, 29, 30),
                    (0, 28, 29), (0, 28, 30), (0, 14, 28, 29), (14, 15, 28, 29), (14, 15, 28, 30),
                    (0, 28, 29, 30), (14, 28, 29, 30), (0, 1, 28), tuple(range(31))]:
            self.refused((15, 15), row)

    def test_rows_that_do_not_rise(self):
        for row in [(14, 0), (29, 14), (29, 28), (30, 29, 28), (28, 30, 29), (14, 0, 29), (0, 29, 14)]:
            self.refused((15, 15), row)

    def test_a_hole_twice(self):
        for row in [(0, 0), (14, 14), (28, 28), (0, 0, 14), (0, 14, 14), (28, 28, 29), (28, 29, 30, 30)]:
            self.refused((15, 15), row)

    def test_holes_beyond(self):
        for row in [(-1,), (31,), (-1, 14), (0, 31), (28, 29, 30, 31), (-1, 28, 29, 30), (999999999999,),
                    (-14,), (0, 14, -1)]:
            self.refused((15, 15), row)
            self.refused((2, 2), row)

    def test_truths_and_other_things_in_a_row(self):
        for row in [(False,), (True,), (False, 14), (True, 14), (False, 14, 29), (0, True), (None,), (0, None),
                    ("0",), (0, "14"), ([0],), ((0,),), ((), 14), (0, []), ("",)]:
            self.refused((15, 15), row)
            self.refused((2, 2), row)

    def test_lists_are_no_rows(self):
        for sign in all_signs((2, 3)):
            self.refused((2, 3), list(strike((2, 3), sign)))

    def test_odd_things(self):
        for thing in ODD_THINGS:
            if thing != ():
                self.refused((15, 15), thing)
        self.refused((15, 15), ("letter", 0, 0, 0))

    def test_what_is_handed_in_stays(self):
        for thing in [[0, 14], [28, [29]], ([0], 14), [[0], [14]], ["struck"]]:
            kept = copy.deepcopy(thing)
            self.refused((15, 15), thing)
            self.assertIs(is_sign((15, 15), thing), False)
            self.assertIs(is_size(thing), False)
            self.assertEqual(thing, kept)


if __name__ == "__main__":
    unittest.main()
