import copy
import random
import unittest

from ribboncast.caster import cast_ribbon
from ribboncast.errors import CastError, NoName
from ribboncast.ribbons import ribbon_of
from ribboncast.sorting import sort_back
from things import CASE, PLAIN_CASE, cells_by_the_document, chance_lines


class Sorting(unittest.TestCase):
    def test_written_ones(self):
        for galley, cells in [
            ([], []),
            ([[]], []),
            ([[], [], []], []),
            ([[("a", 50)]], [(0, 0, 1)]),
            ([[(" ", 30)]], [(1, 3, 1)]),
            ([[("a", 50), ("a", 50)], [("a", 50)]], [(0, 0, 3)]),
            ([[("i", 10), (" ", 34), ("b", 60)], [], [("b", 60), (" ", 30)]], [(1, 0, 2), (1, 3, 2), (2, 3, 1)]),
            ([[("ffi", 170), ("ff", 180), ("f", 80), ("d", 90)]], [(0, 1, 1), (0, 2, 1), (2, 1, 1), (2, 2, 1)]),
        ]:
            kept = copy.deepcopy(galley)
            self.assertEqual(sort_back(CASE, galley), cells)
            self.assertEqual(galley, kept)

    def test_each_cell(self):
        for name, column, row, cam in cells_by_the_document(CASE):
            for many in (1, 2, 61):
                self.assertEqual(sort_back(CASE, [[(name, 1)] * many]), [(column, row, many)])

    def test_columns_come_ahead_of_rows(self):
        # c lies in row 0 of column 2, ff in row 2 of column 0, and neither was cast first in the other's place.
        for names in (["c", "ff"], ["ff", "c"]):
            self.assertEqual(sort_back(CASE, [[(name, 1) for name in names]]), [(0, 2, 1), (2, 0, 1)])

    def test_widths_tell_nothing(self):
        for width in (0, 1, 50, 999999999999):
            self.assertEqual(sort_back(CASE, [[("a", width), (" ", width)]]), [(0, 0, 1), (1, 3, 1)])

    def test_no_name(self):
        for name in ["x", "aa", "zzz", "fi", "abc", "A", "", "  ", "_", "a "]:
            for galley in [[[(name, 50)]], [[("a", 50), (name, 50)]],
                           [[("a", 50)], [], [(" ", 30), (name, 1), ("b", 6)]]]:
                with self.assertRaises(NoName) as refused:
                    sort_back(CASE, galley)
                self.assertIsInstance(refused.exception, CastError)

    def test_names_hang_on_the_case(self):
        self.assertEqual(sort_back(PLAIN_CASE, [[("abc", 4), (" ", 2)]]), [(0, 3, 1), (1, 0, 1)])
        with self.assertRaises(NoName):
            sort_back(PLAIN_CASE, [[("ffi", 4)]])

    def test_what_was_cast_is_what_goes_back(self):
        chance = random.Random(21)
        for trial in range(150):
            case = chance.choice([CASE, PLAIN_CASE])
            job = (case, 1, chance.randint(1, 9), chance.randint(1, 3), chance.randint(20, 90))
            lines = chance_lines(chance, job, 12)
            cast = [name for names, way in lines if way != "struck" for name in names]
            cells = [cell for cell in cells_by_the_document(case) if cell[0] in cast]
            due = sorted([(column, row, cast.count(name)) for name, column, row, cam in cells])
            self.assertEqual(sort_back(case, cast_ribbon(job, ribbon_of(job, lines))), due)

    def test_each_list_is_a_new_one(self):
        galley = [[("a", 50)]]
        told = sort_back(CASE, galley)
        self.assertEqual([isinstance(cell, tuple) for cell in told], [True])
        galley[0].append(("b", 60))
        self.assertEqual(told, [(0, 0, 1)])
        told.clear()
        self.assertEqual(sort_back(CASE, galley), [(0, 0, 1), (1, 0, 1)])
        sort_back(CASE, []).append("zzz")
        self.assertEqual(sort_back(CASE, []), [])


if __name__ == "__main__":
    unittest.main()
