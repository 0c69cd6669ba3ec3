import copy
import unittest

from ribboncast.cases import is_case, named, names_in, place_of, sign_of, size_of, units_of, vet_case
from ribboncast.errors import CastError, NoCase, NoName
from ribboncast.holes import is_sign, is_size
from things import ODD_THINGS

SMALL = ((1, 1), ((("a", 0), (" ", 0)), (None, None)))

OFFICE = (
    (5, 9, 18),
    (
        (("f", 0), ("i", -1), ("l", 1), (" ", 0)),
        (("o", 0), ("c", -1), ("e", 0), None),
        (("ff", -1), ("ffi", 1), None, ("fi", 0)),
    ),
)

LETTERS = "abcdefghijklmnopqrstuvwxyz"


def great_case():
    """Fifteen by fifteen, all cells full: the blank is the last, units go from 1 to 30."""
    names = [first + second for first in LETTERS for second in LETTERS][:224]
    units = (1, 2, 3, 4, 5, 6, 7, 8, 9, 10, 15, 20, 25, 29, 30)
    cells = []
    for row in range(15):
        cams = (0, 1) if units[row] == 1 else (0, 1, -1)
        cells.append([(name, cams[at % len(cams)]) for at, name in enumerate(names[15 * row:15 * row + 15])])
    cells[14].append((" ", 0))
    return (units, tuple([tuple(row) for row in cells]))


def with_cell(case, column, row, cell):
    units, cells = case
    changed = [list(line) for line in cells]
    changed[row][column] = cell
    return (units, tuple([tuple(line) for line in changed]))


def plain_case(wide, high):
    """The blank in the last cell, all others empty."""
    empty = ((1,) * high, ((None,) * wide,) * high)
    return with_cell(empty, wide - 1, high - 1, (" ", 0))


class Judging(unittest.TestCase):
    def held(self, thing):
        self.assertIs(is_case(thing), True, thing)
        self.assertIs(vet_case(thing), True, thing)

    def refused(self, thing):
        kept = copy.deepcopy(thing)
        self.assertIs(is_case(thing), False, thing)
        with self.assertRaises(NoCase) as told:
            vet_case(thing)
        self.assertIsInstance(told.exception, CastError)
        self.assertEqual(thing, kept)

    def test_cases(self):
        for case in (SMALL, OFFICE, great_case()):
            self.held(case)

    def test_sizes_round_the_bounds(self):
        for wide in range(1, 18):
            for high in range(1, 18):
                case = plain_case(wide, high)
                if is_size((wide, high)):
                    self.held(case)
                    self.assertEqual(size_of(case), (wide, high))
                else:
                    self.refused(case)

    def test_nothing_in_it(self):
        for thing in [((), ()), ((1, 1), ()), ((), SMALL[1]), ((1, 1), ((), ())), ((1, 1), (None, None))]:
            self.refused(thing)

    def test_size(self):
        self.assertEqual(size_of(SMALL), (2, 2))
        self.assertEqual(size_of(OFFICE), (4, 3))
        self.assertEqual(size_of(great_case()), (15, 15))
        self.assertIs(is_size(size_of(OFFICE)), True)

    def test_a_tuple_of_two(self):
        units, cells = OFFICE
        for thing in [[units, cells], (units,), (cells,), (units, cells, ()), (units, cells, None), (cells, units),
                      (OFFICE,), (units, None), (None, cells), units, cells, ()]:
            self.refused(thing)

    def test_units_round_the_bounds(self):
        for units in range(-3, 35):
            thing = ((units, 1), SMALL[1])
            if 1 <= units <= 30:
                self.held(thing)
                self.held(((1, units), SMALL[1]))
            else:
                self.refused(thing)
                self.refused(((1, units), SMALL[1]))

    def test_units_are_whole_numbers(self):
        for units in (True, False, None, "1", "", [1], (1,), 999999999999):
            self.refused(((units, 1), SMALL[1]))
            self.refused(((1, units), SMALL[1]))

    def test_units_are_a_tuple_of_as_many_as_rows(self):
        cells = OFFICE[1]
        for units in [[5, 9, 18], (5, 9), (5, 9, 18, 18), (), 5, None, "abc"]:
            self.refused((units, cells))

    def test_cells_are_a_tuple_of_as_many_rows(self):
        units, cells = OFFICE
        for wrong in [list(cells), cells[:2], cells + ((None,) * 4,), (), None, "abc", 3]:
            self.refused((units, wrong))

    def test_rows_are_tuples_of_as_many_cells(self):
        units, cells = OFFICE
        for at in range(3):
            for row in [list(cells[at]), cells[at][:3], cells[at][1:], cells[at] + (None,), (), None, "abcd", 4]:
                self.refused((units, cells[:at] + (row,) + cells[at + 1:]))

    def test_cells(self):
        for cell in [None, ("b", 0), ("b", 1), ("bcd", 0), ("zz", 1), ("az", 0)]:
            self.held(with_cell(SMALL, 1, 1, cell))
        for cell in [["b", 0], ("b",), ("b", 0, 0), ("b", 0, None), (), [], "b", 0, True, False, (0, "b"), ("b", "0"),
                     (("b", 0),), [None], (None, 0), (None,)]:
            self.refused(with_cell(SMALL, 1, 1, cell))

    def test_names(self):
        for name in ["b", "z", "bc", "zzz", "xyz"]:
            self.held(with_cell(SMALL, 1, 1, (name, 0)))
        for name in ["", "abcd", "A", "aB", "abC", "a ", " a", "  ", "b1", "1", "-", "_", ".", "`", "{", "b\n", "\n",
                     "\u00e4", "\u00df", "\u0430", "b\u00e4", None, True, 1, ["b"], ("b",), "b" * 400]:
            self.refused(with_cell(SMALL, 1, 1, (name, 0)))

    def test_all_small_letters_are_names(self):
        for letter in LETTERS[1:]:
            self.held(with_cell(SMALL, 1, 1, (letter, 0)))

    def test_cams(self):
        wide = ((2, 2), SMALL[1])
        for cam in range(-4, 5):
            thing = with_cell(wide, 1, 1, ("b", cam))
            if -1 <= cam <= 1:
                self.held(thing)
            else:
                self.refused(thing)
        for cam in (True, False, None, "", "0", [0], (0,), ()):
            self.refused(with_cell(wide, 1, 1, ("b", cam)))

    def test_the_blank_stands_in_just_one_cell(self):
        self.refused(with_cell(SMALL, 1, 0, None))
        self.refused(with_cell(SMALL, 1, 0, ("b", 0)))
        self.refused(with_cell(SMALL, 0, 1, (" ", 0)))
        self.refused(with_cell(SMALL, 0, 0, (" ", 0)))
        self.held(with_cell(with_cell(SMALL, 1, 0, None), 0, 1, (" ", 0)))

    def test_the_blank_has_cam_0(self):
        wide = ((2, 2), SMALL[1])
        for cam in (1, -1, True, False, None, "0", [0]):
            self.refused(with_cell(wide, 1, 0, (" ", cam)))

    def test_no_name_stands_twice(self):
        self.refused(with_cell(SMALL, 0, 1, ("a", 0)))
        self.refused(with_cell(SMALL, 1, 1, ("a", 1)))
        self.refused(with_cell(OFFICE, 2, 2, ("ff", 0)))
        self.refused(with_cell(OFFICE, 3, 1, ("ffi", 1)))

    def test_units_and_cam_are_not_0_together(self):
        self.refused(with_cell(SMALL, 0, 0, ("a", -1)))
        self.refused(with_cell(SMALL, 1, 1, ("b", -1)))
        self.held(((2, 1), with_cell(SMALL, 0, 0, ("a", -1))[1]))
        self.refused(((1, 2), with_cell(SMALL, 0, 0, ("a", -1))[1]))

    def test_odd_things(self):
        for thing in ODD_THINGS:
            self.refused(thing)
            self.refused((thing, SMALL[1]))
            self.refused(((1, 1), thing))
            if thing is not None:
                self.refused(with_cell(SMALL, 1, 1, thing))


class Names(unittest.TestCase):
    def refused(self, case, thing):
        kept = copy.deepcopy(thing)
        for asked in (place_of, units_of, sign_of):
            with self.assertRaises(NoName) as told:
                asked(case, thing)
            self.assertIsInstance(told.exception, CastError)
        self.assertEqual(thing, kept)

    def test_names_are_sorted_without_the_blank(self):
        self.assertEqual(names_in(SMALL), ["a"])
        self.assertEqual(names_in(OFFICE), ["c", "e", "f", "ff", "ffi", "fi", "i", "l", "o"])
        self.assertEqual(names_in(plain_case(2, 2)), [])
        names = names_in(great_case())
        self.assertEqual(len(names), 224)
        self.assertEqual(names, sorted(names))

    def test_names_are_a_new_list_each_time(self):
        for case in (SMALL, OFFICE, plain_case(2, 2)):
            first = names_in(case)
            kept = list(first)
            self.assertIs(isinstance(first, list), True)
            self.assertIsNot(first, names_in(case))
            first.append("zzz")
            self.assertEqual(names_in(case), kept)

    def test_places(self):
        self.assertEqual(place_of(SMALL, "a"), (0, 0))
        self.assertEqual(place_of(SMALL, " "), (1, 0))
        self.assertEqual(place_of(OFFICE, "i"), (1, 0))
        self.assertEqual(place_of(OFFICE, "o"), (0, 1))
        self.assertEqual(place_of(OFFICE, "ffi"), (1, 2))
        self.assertEqual(place_of(OFFICE, "fi"), (3, 2))
        self.assertEqual(place_of(OFFICE, " "), (3, 0))
        self.assertIs(isinstance(place_of(OFFICE, "fi"), tuple), True)

    def test_units(self):
        due = {"f": 5, "i": 4, "l": 6, " ": 5, "o": 9, "c": 8, "e": 9, "ff": 17, "ffi": 19, "fi": 18}
        for name, units in due.items():
            self.assertEqual(units_of(OFFICE, name), units, name)

    def test_units_at_the_bounds(self):
        case = ((2, 30), ((("a", -1), (" ", 0)), (("b", 1), ("c", 0))))
        self.assertEqual([units_of(case, name) for name in "a bc"], [1, 2, 31, 30])

    def test_signs(self):
        self.assertEqual(sign_of(SMALL, "a"), ("letter", 0, 0, 0))
        self.assertEqual(sign_of(SMALL, " "), ("blank", 1, 0))
        self.assertEqual(sign_of(OFFICE, "c"), ("letter", 1, 1, -1))
        self.assertEqual(sign_of(OFFICE, "ffi"), ("letter", 1, 2, 1))
        self.assertEqual(sign_of(OFFICE, " "), ("blank", 3, 0))

    def test_each_name_of_a_full_case(self):
        case = great_case()
        units, cells = case
        for row in range(15):
            for column in range(15):
                name, cam = cells[row][column]
                self.assertEqual(place_of(case, name), (column, row))
                self.assertEqual(units_of(case, name), units[row] + cam)
                due = ("blank", column, row) if name == " " else ("letter", column, row, cam)
                self.assertEqual(sign_of(case, name), due)
                self.assertIs(is_sign((15, 15), due), True)

    def test_names_that_are_not_there(self):
        for thing in ["b", "A", "aa", "a ", " a", "  ", "_", "", "\n"]:
            self.refused(SMALL, thing)
        for thing in ["a", "of", "office", "ffl", "fff", "", "O"]:
            self.refused(OFFICE, thing)

    def test_other_things_are_no_names(self):
        for thing in [None, True, False, 0, 1, -1, [], ["a"], [" "], (), ("a",), ("a", 0), (" ", 0), (0, 0),
                      ("letter", 0, 0, 0), [["a"]], (None,)]:
            self.refused(SMALL, thing)

    def test_odd_things(self):
        for thing in ODD_THINGS:
            if thing != " ":
                self.refused(OFFICE, thing)


class Naming(unittest.TestCase):
    def refused(self, case, word):
        with self.assertRaises(NoName) as told:
            named(case, word)
        self.assertIsInstance(told.exception, CastError)

    def test_the_longest_name_at_each_place(self):
        self.assertEqual(named(OFFICE, "office"), ["o", "ffi", "c", "e"])
        self.assertEqual(named(OFFICE, "off"), ["o", "ff"])
        self.assertEqual(named(OFFICE, "of"), ["o", "f"])
        self.assertEqual(named(OFFICE, "fife"), ["fi", "f", "e"])
        self.assertEqual(named(OFFICE, "fffi"), ["ff", "fi"])
        self.assertEqual(named(OFFICE, "ffffi"), ["ff", "ffi"])
        self.assertEqual(named(OFFICE, "ffle"), ["ff", "l", "e"])
        self.assertEqual(named(OFFICE, "ffiffi"), ["ffi", "ffi"])
        self.assertEqual(named(SMALL, "aaa"), ["a", "a", "a"])

    def test_it_hangs_on_the_case(self):
        case = with_cell(with_cell(OFFICE, 1, 2, None), 3, 2, None)
        self.assertEqual(named(case, "office"), ["o", "ff", "i", "c", "e"])
        self.assertEqual(named(OFFICE, "office"), ["o", "ffi", "c", "e"])

    def test_there_is_no_going_back(self):
        # "ab" is taken, and behind it no name begins with "c", though a and bc would do.
        case = ((1, 1), ((("a", 0), ("ab", 0)), (("bc", 0), (" ", 0))))
        self.assertEqual(named(case, "aab"), ["a", "ab"])
        self.assertEqual(named(case, "bcab"), ["bc", "ab"])
        self.refused(case, "abc")

    def test_a_longer_name_need_not_have_shorter_ones(self):
        case = ((1, 1), ((("abc", 0), (" ", 0)), (None, None)))
        self.assertEqual(named(case, "abcabc"), ["abc", "abc"])
        for word in ["a", "ab", "abca", "abcab", "bc", "xabc", "abcx"]:
            self.refused(case, word)

    def test_the_empty_word(self):
        for case in (SMALL, OFFICE, great_case(), plain_case(2, 2)):
            self.assertEqual(named(case, ""), [])

    def test_words_that_have_no_names(self):
        for word in ["b", "ab", "ba", "aab", "z"]:
            self.refused(SMALL, word)
        self.refused(OFFICE, "coffin")
        self.refused(OFFICE, "noffice")
        self.refused(plain_case(2, 2), "a")

    def test_signs_that_are_no_small_letters(self):
        for sign in [" ", "A", "1", "_", "-", "/", ".", "+", "\n", "\t", "`", "{", "\u00e4", "\u0430"]:
            for word in [sign, sign + "a", "a" + sign, "a" + sign + "a", "aaa" + sign]:
                self.refused(SMALL, word)

    def test_long_words(self):
        self.assertEqual(named(SMALL, "a" * 6000), ["a"] * 6000)
        self.assertEqual(named(OFFICE, "ffi" * 2000), ["ffi"] * 2000)
        self.refused(SMALL, "a" * 5999 + "b")

    def test_what_is_named_is_the_word(self):
        case = great_case()
        for word in ["aabbcc", "abcdefhg", "hphohn"]:
            self.assertEqual("".join(named(case, word)), word)

    def test_a_new_list_each_time(self):
        for word in ["office", "e", ""]:
            first = named(OFFICE, word)
            kept = list(first)
            self.assertIs(isinstance(first, list), True)
            self.assertIsNot(first, named(OFFICE, word))
            first.append("zzz")
            self.assertEqual(named(OFFICE, word), kept)


if __name__ == "__main__":
    unittest.main()
