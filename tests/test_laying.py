import copy
import itertools
import random
import unittest

from ribboncast.cases import is_case, names_in, size_of, units_of
from ribboncast.errors import CastError, NoLayout
from ribboncast.laying import cams_in, lay_out

NAMES = [first + second for first in "abc" for second in "abcdefghijklmnopqrstuvwxyz"]


def letters_of(widths):
    """Letters of these widths, by names of one, two and three signs."""
    names = list("abcdefghij") + NAMES[:20] + ["z" + name for name in NAMES[20:]]
    return [(names[at], width) for at, width in enumerate(widths)]


def fewest_in_rows(widths, rows, wide):
    """The fewest cams for rows of these units, letter by letter through all rows that can take it; None if none."""
    known = {}

    def fewest(at, free):
        if at == len(widths):
            return 0
        if (at, free) not in known:
            ways = []
            for row in range(len(rows)):
                if free[row] > 0 and abs(rows[row] - widths[at]) <= 1:
                    behind = fewest(at + 1, free[:row] + (free[row] - 1,) + free[row + 1:])
                    if behind is not None:
                        ways.append(behind + (rows[row] != widths[at]))
            known[(at, free)] = min(ways, default=None)
        return known[(at, free)]

    return fewest(0, (wide,) * len(rows))


def fewest_by_all_ways(size, widths):
    """Point 10, by all units that the rows may have; None where there is no way."""
    wide, high = size
    if len(widths) + 1 > wide * high:
        return None
    near = sorted({units for width in widths for units in (width - 1, width, width + 1) if 1 <= units <= 30}) or [1]
    ways = [fewest_in_rows(widths, rows, wide) for rows in itertools.combinations_with_replacement(near, high)]
    return min([way for way in ways if way is not None], default=None)


class Laying(unittest.TestCase):
    def sound(self, size, letters):
        """The case of the letters, looked at cell by cell."""
        case = lay_out(size, letters)
        self.assertIs(is_case(case), True, (size, letters))
        wide, high = size
        units, cells = case
        self.assertEqual((len(cells[0]), len(units)), (wide, high))
        self.assertEqual(size_of(case), size)
        seen = []
        blanks = 0
        for row in range(high):
            self.assertEqual(len(cells[row]), wide)
            for cell in cells[row]:
                if cell == (" ", 0):
                    blanks += 1
                elif cell is not None:
                    seen.append((cell[0], units[row] + cell[1]))
        self.assertEqual(blanks, 1)
        self.assertEqual(sorted(seen), sorted(letters))
        self.assertEqual(names_in(case), sorted([name for name, width in letters]))
        for name, width in letters:
            self.assertEqual(units_of(case, name), width)
        return case

    def laid(self, size, widths, cams):
        case = self.sound(size, letters_of(widths))
        self.assertEqual(cams_in(case), cams, (size, widths))

    def refused(self, size, widths):
        letters = letters_of(widths)
        with self.assertRaises(NoLayout) as told:
            lay_out(size, letters)
        self.assertIsInstance(told.exception, CastError)
        self.assertEqual(letters, letters_of(widths))

    def held_against_all_ways(self, size, widths):
        due = fewest_by_all_ways(size, widths)
        if due is None:
            self.refused(size, widths)
        else:
            self.laid(size, widths, due)

    def test_written_ones(self):
        self.laid((2, 2), [5], 0)
        self.laid((2, 2), [5, 9], 0)
        self.laid((2, 2), [5, 6, 7], 1)
        self.laid((2, 2), [5, 7, 9], 2)
        self.laid((2, 2), [5, 5, 5], 0)
        self.laid((3, 2), [5, 5, 5, 5, 6], 1)
        self.laid((3, 2), [5, 5, 5, 6, 6], 0)
        self.laid((3, 2), [4, 5, 6, 9, 10], 3)
        self.laid((2, 3), [1, 2, 29, 30], 1)
        self.laid((2, 2), [1, 2, 30], 1)

    def test_no_letters(self):
        for wide in range(2, 16):
            for high in range(2, 16):
                self.laid((wide, high), [], 0)

    def test_one_letter_of_each_width_in_each_size(self):
        for size in itertools.product(range(2, 16), repeat=2):
            for width in (1, 2, 15, 29, 30):
                self.laid(size, [width], 0)

    def test_a_cell_is_left_for_the_blank(self):
        for wide, high in itertools.product(range(2, 16), repeat=2):
            cells = wide * high
            if cells - 1 <= 60:
                self.laid((wide, high), [7] * (cells - 1), 0)
            if cells <= 60:
                self.refused((wide, high), [7] * cells)
            if cells + 1 <= 60:
                self.refused((wide, high), [7] * (cells + 1))

    def test_full_rows_of_unlike_widths(self):
        # Each row but the last is full of its own width; the last one has the blank.
        for wide, high in itertools.product(range(2, 16), range(2, 16)):
            if wide * high - 1 <= 60:
                widths = [1 + 2 * row for row in range(high) for column in range(wide)][:-1]
                self.laid((wide, high), widths, 0)

    def test_the_blank_goes_where_there_is_room(self):
        # The only cell left lies in a row of any units, the first or the last.
        self.laid((3, 3), [2, 2, 20, 20, 20, 30, 30, 30], 0)
        self.laid((3, 3), [2, 2, 2, 20, 20, 30, 30, 30], 0)
        self.laid((3, 3), [2, 2, 2, 20, 20, 20, 30, 30], 0)
        self.refused((3, 3), [2, 2, 2, 20, 20, 20, 30, 30, 30])

    def test_the_rows_have_units_from_1_to_30(self):
        # No row has 0 units or 31, so each of these is laid out in rows of 1 and 2, or of 29 and 30.
        self.laid((2, 2), [1, 1], 0)
        self.laid((3, 2), [1, 1, 1, 2, 2], 0)
        self.laid((2, 2), [1, 2, 3], 1)
        self.laid((2, 2), [28, 29, 30], 1)
        self.laid((2, 2), [30, 30, 30], 0)
        self.laid((5, 2), [1, 2, 3, 28, 29, 30], 4)
        self.refused((2, 2), [1, 1, 1, 30])
        self.refused((2, 2), [1, 3, 3, 30])

    def test_too_many_unlike_widths_for_the_rows(self):
        self.refused((15, 2), [1, 4, 7])
        self.laid((15, 2), [1, 3, 5], 2)
        self.laid((15, 2), [1, 3, 4, 6], 4)
        self.laid((15, 2), [1, 2, 3, 4, 5, 6], 4)
        self.refused((15, 2), [1, 2, 3, 4, 5, 6, 7])
        for high in range(2, 11):
            self.laid((15, high), list(range(1, 3 * high + 1)), 2 * high)
            if high < 10:
                self.refused((15, high), list(range(1, 3 * high + 2)))
        for high in range(10, 16):
            self.laid((15, high), list(range(1, 31)), 30 - high)

    def test_too_many_of_one_width_for_the_rows(self):
        self.refused((2, 2), [5, 5, 9, 9])
        self.laid((2, 3), [5, 5, 5, 9, 9], 0)
        self.refused((2, 3), [5, 5, 5, 9, 9, 9])
        self.refused((2, 3), [5, 5, 5, 5, 5, 9])
        self.refused((2, 2), [5, 5, 5, 8])
        self.refused((3, 2), [5, 5, 5, 5, 9])
        self.laid((4, 2), [5, 5, 5, 5, 9], 0)
        self.laid((3, 3), [5, 5, 5, 5, 9], 0)

    def test_a_letter_moves_by_one_unit_only(self):
        self.laid((4, 2), [5, 5, 5, 6, 7, 7, 7], 1)
        self.laid((3, 2), [5, 5, 5, 6, 7], 1)
        # The fourth of 5 lies in a row of 6 beside that of 7, but can't lie beside one of 8.
        self.laid((3, 2), [5, 5, 5, 5, 7], 2)
        self.refused((3, 2), [5, 5, 5, 5, 8])
        self.refused((4, 2), [5, 5, 5, 5, 5, 8])

    def test_small_sizes_against_all_ways(self):
        for many in range(5):
            for widths in itertools.combinations_with_replacement(range(1, 7), many):
                self.held_against_all_ways((2, 2), list(widths))
        for size in [(3, 2), (2, 3)]:
            for widths in itertools.combinations_with_replacement((1, 2, 3, 5, 6), 5):
                self.held_against_all_ways(size, list(widths))

    def test_the_upper_edge_against_all_ways(self):
        for many in range(1, 5):
            for widths in itertools.combinations_with_replacement(range(26, 31), many):
                self.held_against_all_ways((2, 2), list(widths))
                self.held_against_all_ways((3, 2), list(widths))

    def test_many_letters_against_all_ways(self):
        chance = random.Random(10)
        refused = 0
        for trial in range(250):
            size = (chance.randint(2, 5), chance.randint(2, 4))
            most = min(size[0] * size[1] + 1, 14)
            low = chance.choice([1, 1, 7, 24])
            widths = [chance.randint(low, low + chance.randint(0, 6)) for letter in range(chance.randint(0, most))]
            refused += fewest_by_all_ways(size, widths) is None
            self.held_against_all_ways(size, widths)
        self.assertTrue(20 < refused < 230, refused)

    def test_great_sizes_by_a_known_way(self):
        # The letters are read off a case with few cams: no more cams may be told.
        chance = random.Random(11)
        for trial in range(120):
            wide, high = chance.randint(2, 15), chance.randint(2, 15)
            rows = [chance.randint(1, 30) for row in range(high)]
            places = [(row, column) for row in range(high) for column in range(wide)]
            chance.shuffle(places)
            widths = []
            cams = 0
            for row, column in places[1:chance.randint(1, 61)]:
                cam = chance.choice([-1, 0, 0, 0, 1])
                if 1 <= rows[row] + cam <= 30:
                    widths.append(rows[row] + cam)
                    cams += cam != 0
            case = self.sound((wide, high), letters_of(widths))
            self.assertLessEqual(cams_in(case), cams)

    def test_sixty_letters(self):
        self.laid((15, 15), [1 + at % 30 for at in range(60)], 30)
        self.laid((15, 15), [1 + 2 * (at % 15) for at in range(60)], 0)
        self.laid((4, 15), [1 + 2 * (at % 15) for at in range(59)], 0)
        self.refused((4, 15), [1 + 2 * (at % 15) for at in range(60)])
        self.laid((15, 5), [10 + at % 6 for at in range(60)], 10)
        self.laid((15, 2), [10] * 15 + [11] * 14, 0)
        self.laid((15, 2), [10] * 29, 0)
        self.refused((15, 3), [10] * 20 + [20] * 20)

    def test_somewhat_beyond_the_bounds(self):
        # Nothing is refused for its bound alone: what can be laid out is.
        self.laid((2, 2), [31], 1)
        self.laid((3, 2), [31, 31, 30, 5], 2)
        self.laid((3, 2), [31, 31, 31, 29, 30], 4)
        self.refused((2, 2), [0])
        self.refused((2, 2), [32])
        self.refused((2, 2), [5, 32])
        letters = [("q" + name, 1 + at % 15) for at, name in enumerate(NAMES[:75])]
        self.assertEqual(cams_in(self.sound((15, 15), letters)), 0)

    def test_names_of_one_to_three_signs(self):
        letters = [("a", 3), ("aa", 3), ("aaa", 4), ("zzz", 9), ("z", 9)]
        self.assertEqual(cams_in(self.sound((3, 3), letters)), 0)
        self.assertEqual(cams_in(self.sound((3, 2), letters)), 1)

    def test_the_order_of_letters_changes_no_number_of_cams(self):
        for widths in itertools.permutations([5, 5, 6, 7, 7]):
            self.laid((3, 2), list(widths), 1)

    def test_letters_stay_as_they_were(self):
        for size, widths in [((3, 3), [4, 5, 6, 9, 9]), ((2, 2), []), ((15, 15), list(range(1, 31)))]:
            letters = letters_of(widths)
            kept = copy.deepcopy(letters)
            lay_out(size, letters)
            self.assertEqual(letters, kept)

    def test_letters_changed_behind_the_call(self):
        letters = letters_of([4, 5, 6, 9, 9])
        case = lay_out((3, 3), letters)
        kept = copy.deepcopy(case)
        letters.clear()
        letters.append(("zzz", 30))
        self.assertEqual(case, kept)
        self.assertEqual(names_in(case), ["a", "b", "c", "d", "e"])
        self.assertEqual(self.sound((3, 3), letters_of([4, 5, 6, 9, 9])), kept)

    def test_what_was_asked_before_changes_nothing(self):
        for widths in ([4, 5, 6], [30], [4, 5, 6]):
            self.sound((2, 2), letters_of(widths))
        self.refused((2, 2), [1, 10, 20])
        self.laid((2, 2), [1, 10], 0)


class Cams(unittest.TestCase):
    def test_cams_that_are_not_0(self):
        for cells, many in [
            (((("a", 0), (" ", 0)), (None, None)), 0),
            (((None, (" ", 0)), (None, None)), 0),
            (((("a", 1), (" ", 0)), (None, None)), 1),
            (((("a", -1), (" ", 0)), (None, None)), 1),
            (((("a", -1), (" ", 0)), (("b", 1), None)), 2),
            (((("a", -1), ("b", 0)), ((" ", 0), ("c", 1))), 2),
            (((("a", -1), ("b", -1)), ((" ", 0), ("c", -1))), 3),
        ]:
            case = ((2, 2), cells)
            self.assertIs(is_case(case), True)
            self.assertEqual(cams_in(case), many)

    def test_a_great_case(self):
        names = iter(["q" + name for name in NAMES] + ["r" + name for name in NAMES] + ["s" + name for name in NAMES])
        cells = [[(next(names), (-1, 0, 1)[column % 3]) for column in range(15)] for row in range(15)]
        cells[7][7] = (" ", 0)
        case = ((9,) * 15, tuple([tuple(row) for row in cells]))
        self.assertIs(is_case(case), True)
        self.assertEqual(cams_in(case), sum(cell[1] != 0 for row in cells for cell in row))
        self.assertEqual(cams_in(case), 150)


if __name__ == "__main__":
    unittest.main()
