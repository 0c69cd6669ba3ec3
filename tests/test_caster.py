import copy
import random
import unittest

from ribboncast.caster import cast_ribbon, pull_of
from ribboncast.errors import CastError, NoEnd, NoHoles, NoMold
from ribboncast.keyboard import line_width, steps_of
from ribboncast.ribbons import ribbon_of
from things import CASE, PLAIN_CASE, ReadThrough, chance_lines, chance_row, put_otherwise, told

# a 50 grains, b 60, c 40, d 90, e 100, f 80, ff 180, ffi 170, i 10; a blank from 30 to 478, by twos.
JOB = (CASE, 10, 30, 2, 200)

A = (0, 14)
B = (1, 14, 29)
BLANK = (1, 28)
COARSE = (14, 28, 29)
FINE = (14, 28, 30)
STRUCK = (28, 29, 30)

# Rows of holes that are no signs of three columns and four rows: the last column's, the last row's, holes too many.
NO_SIGNS = [(2,), (17,), (2, 14), (0, 17), (0, 1), (14, 15), (29, 30), (0, 14, 29, 30), (0, 28, 29), (0, 28, 29, 30)]

# Letters in a cell without a name, with another cam, in the blank's cell; blanks in another cell.
NO_MOLDS = [
    (1, 16), (0,), (1, 16, 29), (0, 30),
    (0, 14, 29), (0, 14, 30), (1, 14), (1, 14, 30), (14,), (14, 29), (), (29,),
    (1,), (1, 29), (1, 30),
    (0, 14, 28), (1, 14, 28), (28,), (0, 28), (1, 16, 28),
]


class Casting(unittest.TestCase):
    def refused(self, error, at, ribbon):
        kept = copy.deepcopy(ribbon)
        with self.assertRaises(error) as known:
            cast_ribbon(JOB, ribbon)
        self.assertEqual(known.exception.at, at, ribbon)
        self.assertIsInstance(known.exception, CastError)
        self.assertEqual(ribbon, kept)

    def test_the_ribbon_without_rows(self):
        self.assertEqual(cast_ribbon(JOB, []), [])

    def test_a_line_is_cast_last_letter_first(self):
        self.assertEqual(cast_ribbon(JOB, [A, BLANK, B, COARSE, FINE]), [[("b", 60), (" ", 30), ("a", 50)]])

    def test_the_last_line_is_cast_first(self):
        self.assertEqual(cast_ribbon(JOB, [A, COARSE, FINE, B, A, COARSE, FINE]), [[("a", 50), ("b", 60)], [("a", 50)]])

    def test_blanks_are_widened_by_the_steps_of_their_line(self):
        for coarse_row, coarse in [((14, 28, 29), 0), ((15, 28, 29), 1), ((27, 28, 29), 13), ((28, 29), 14)]:
            for fine_row, fine in [((14, 28, 30), 0), ((15, 28, 30), 1), ((27, 28, 30), 13), ((28, 30), 14)]:
                width = 30 + 2 * (15 * coarse + fine)
                self.assertEqual(cast_ribbon(JOB, [BLANK, A, BLANK, coarse_row, fine_row]),
                                 [[(" ", width), ("a", 50), (" ", width)]])

    def test_each_line_has_its_own_steps(self):
        ribbon = [BLANK, COARSE, (16, 28, 30), BLANK, (15, 28, 29), FINE, BLANK, COARSE, FINE]
        self.assertEqual(cast_ribbon(JOB, ribbon), [[(" ", 30)], [(" ", 60)], [(" ", 34)]])

    def test_each_cell_is_cast_in_its_units(self):
        rows = [A, B, (14, 30), (0, 15), (1, 15, 29), (15, 30), (0, 16), (16, 30), BLANK, (30,)]
        pieces = [("a", 50), ("b", 60), ("c", 40), ("d", 90), ("e", 100), ("f", 80), ("ff", 180), ("ffi", 170),
                  (" ", 30), ("i", 10)]
        self.assertEqual(cast_ribbon(JOB, rows + [COARSE, FINE]), [pieces[::-1]])

    def test_a_line_need_not_come_to_the_measure(self):
        self.assertEqual(cast_ribbon(JOB, [(0, 16)] * 9 + [(28, 29), (28, 30)]), [[("ff", 180)] * 9])

    def test_a_struck_line_casts_nothing(self):
        for ribbon, galley in [
            ([STRUCK], []),
            ([A, STRUCK], []),
            ([STRUCK, STRUCK, STRUCK], []),
            ([A, B, STRUCK, A, COARSE, FINE], [[("a", 50)]]),
            ([A, COARSE, FINE, B, STRUCK], [[("a", 50)]]),
            ([A, COARSE, FINE, STRUCK, B, COARSE, FINE], [[("b", 60)], [("a", 50)]]),
        ]:
            self.assertEqual(cast_ribbon(JOB, ribbon), galley)

    def test_a_line_without_letters_is_an_empty_one(self):
        self.assertEqual(cast_ribbon(JOB, [COARSE, FINE]), [[]])
        self.assertEqual(cast_ribbon(JOB, [COARSE, FINE, COARSE, FINE]), [[], []])
        self.assertEqual(cast_ribbon(JOB, [COARSE, FINE, A, COARSE, FINE, STRUCK, COARSE, FINE]), [[], [("a", 50)], []])

    def test_letters_of_struck_lines_are_no_names(self):
        for row in NO_MOLDS:
            self.assertEqual(cast_ribbon(JOB, [A, COARSE, FINE, B, row, B, STRUCK]), [[("a", 50)]])
        self.assertEqual(cast_ribbon(JOB, NO_MOLDS + [STRUCK]), [])

    def test_no_mold(self):
        for row in NO_MOLDS:
            self.refused(NoMold, 2, [A, B, row, B, COARSE, FINE])
            self.refused(NoMold, 0, [row, COARSE, FINE])
            self.refused(NoMold, 5, [A, COARSE, FINE, STRUCK, row, row, COARSE, FINE])

    def test_no_mold_is_told_at_the_first_row_read(self):
        self.refused(NoMold, 1, [(2,), (1, 16), B, COARSE, FINE])
        self.refused(NoMold, 3, [COARSE, FINE, COARSE, (1, 16), COARSE, FINE])
        self.refused(NoHoles, 1, [(1, 16), (2,), B, COARSE, FINE])
        self.refused(NoEnd, 1, [(1, 16), COARSE, B, COARSE, FINE])

    def test_no_holes(self):
        for row in NO_SIGNS:
            self.refused(NoHoles, 0, [row])
            self.refused(NoHoles, 5, [A, COARSE, FINE, A, FINE, row])
            self.refused(NoHoles, 3, [A, FINE, FINE, row, FINE])
            self.refused(NoHoles, 0, [row, FINE])
            self.refused(NoHoles, 1, [A, row, B, COARSE, FINE])
            self.refused(NoHoles, 1, [A, row, B, STRUCK])
            self.refused(NoHoles, 0, [row, STRUCK])
            self.refused(NoHoles, 0, [row, COARSE, FINE])

    def test_a_sign_hangs_on_the_size_of_the_case(self):
        job = (PLAIN_CASE,) + JOB[1:]
        self.assertEqual(cast_ribbon(job, [A, (0,), (0, 16), COARSE, FINE]), [[("c", 30), ("abc", 40), ("a", 10)]])
        self.assertEqual(told(cast_ribbon, job, [B, COARSE, FINE]), ("NoHoles", 0))

    def test_no_end_where_a_line_ends(self):
        for row in [A, B, BLANK, COARSE, (28, 29), (1, 16), (), (28,)]:
            self.refused(NoEnd, 0, [row])
            self.refused(NoEnd, 3, [A, COARSE, FINE, row])
            self.refused(NoEnd, 1, [(2,), row])

    def test_no_end_behind_fine(self):
        for row in [A, B, BLANK, FINE, (28, 30), STRUCK, (1, 16), (), (28,)]:
            self.refused(NoEnd, 0, [row, FINE])
            self.refused(NoEnd, 4, [A, COARSE, FINE, A, row, FINE])
            self.refused(NoEnd, 2, [COARSE, FINE, row, FINE, COARSE, FINE])

    def test_the_ribbon_begins_behind_a_fine(self):
        self.refused(NoEnd, 0, [FINE])
        self.refused(NoEnd, 0, [(28, 30)])
        self.refused(NoEnd, 0, [FINE, A, COARSE, FINE])
        self.refused(NoEnd, 0, [FINE, STRUCK])
        self.refused(NoEnd, 0, [FINE, COARSE, FINE])

    def test_no_end_where_letters_are_read(self):
        for row in [COARSE, (20, 28, 29), (28, 29)]:
            self.refused(NoEnd, 0, [row, A, COARSE, FINE])
            self.refused(NoEnd, 0, [row, COARSE, FINE])
            self.refused(NoEnd, 1, [A, row, A, STRUCK])
            self.refused(NoEnd, 0, [row, STRUCK])
            self.refused(NoEnd, 2, [A, FINE, row, STRUCK, COARSE, FINE])

    def test_the_first_row_read_is_refused(self):
        ribbon = [A, B, COARSE, FINE, A, B, STRUCK, A, COARSE, FINE]
        for at in range(10):
            otherwise = ribbon[:at] + [(2,)] + ribbon[at + 1:]
            self.refused(NoHoles, at, otherwise)
            self.refused(NoHoles, at, [(2,)] * at + otherwise[at:])

    def test_keyed_lines_are_cast_as_they_were_keyed(self):
        chance = random.Random(18)
        many = 0
        for trial in range(200):
            case = chance.choice([CASE, PLAIN_CASE])
            job = (case, chance.randint(1, 5), chance.randint(1, 9), chance.randint(1, 3), chance.randint(20, 300))
            lines = chance_lines(chance, job, 12)
            galley = cast_ribbon(job, ribbon_of(job, lines))
            due = []
            for names, way in lines[::-1]:
                steps = steps_of(job, names) if way == "kept" else (0, 0)
                if way != "struck":
                    due.append([(name, line_width(job, [name], steps)) for name in names[::-1]])
            self.assertEqual(galley, due)
            many += len(due)
        self.assertGreater(many, 300)

    def test_rows_put_otherwise_left_out_put_in_exchanged(self):
        chance = random.Random(181)
        seen = {}
        for trial in range(2500):
            case = chance.choice([CASE, PLAIN_CASE])
            size = (len(case[1][0]), len(case[0]))
            job = (case, 1, chance.randint(1, 9), chance.randint(1, 3), chance.randint(15, 60))
            ribbon = put_otherwise(chance, size, ribbon_of(job, chance_lines(chance, job, 5)))
            due = ReadThrough(job, ribbon).galley()
            self.assertEqual(told(cast_ribbon, job, ribbon), due, (job, ribbon))
            kind = due[0] if isinstance(due, tuple) else "galley"
            seen[kind] = seen.get(kind, 0) + 1
        self.assertEqual(sorted(seen), ["NoEnd", "NoHoles", "NoMold", "galley"])
        self.assertGreater(min(seen.values()), 100)

    def test_rows_by_chance(self):
        chance = random.Random(182)
        for trial in range(1500):
            ribbon = [chance_row(chance, (3, 4)) for row in range(chance.randint(0, 6))]
            ribbon += chance.choice([[], [STRUCK], [FINE], [COARSE, FINE]])
            self.assertEqual(told(cast_ribbon, JOB, ribbon), ReadThrough(JOB, ribbon).galley(), ribbon)

    def test_four_hundred_rows(self):
        self.assertEqual(cast_ribbon(JOB, [STRUCK] * 400), [])
        self.assertEqual(cast_ribbon(JOB, [COARSE, FINE] * 200), [[]] * 200)
        self.assertEqual(cast_ribbon(JOB, [A] * 398 + [COARSE, FINE]), [[("a", 50)] * 398])
        self.assertEqual(cast_ribbon(JOB, [A] * 399 + [STRUCK]), [])
        self.refused(NoEnd, 399, [A] * 400)
        self.refused(NoEnd, 398, [FINE] * 400)

    def test_each_list_is_a_new_one(self):
        ribbon = [A, COARSE, FINE, COARSE, FINE, COARSE, FINE, STRUCK]
        kept = list(ribbon)
        galley = cast_ribbon(JOB, ribbon)
        self.assertEqual(len({id(line) for line in galley}), 3)
        for line in galley:
            self.assertIs(isinstance(line, list), True)
            line.append("zzz")
        galley.clear()
        self.assertEqual(ribbon, kept)
        second = cast_ribbon(JOB, ribbon)
        self.assertEqual(second, [[], [], [("a", 50)]])
        self.assertEqual([isinstance(piece, tuple) for piece in second[2]], [True])
        ribbon.clear()
        self.assertEqual(second, [[], [], [("a", 50)]])
        cast_ribbon(JOB, []).append("zzz")
        self.assertEqual(cast_ribbon(JOB, []), [])


class Pull(unittest.TestCase):
    def test_written_ones(self):
        for galley, pull in [
            ([], []),
            ([[]], [""]),
            ([[], []], ["", ""]),
            ([[("a", 50)]], ["a"]),
            ([[("b", 60), (" ", 30), ("a", 50)]], ["a b"]),
            ([[("e", 1), ("c", 1), ("ffi", 1), ("o", 1)]], ["office"]),
            ([[("b", 60)], [], [("a", 50), (" ", 34)]], [" a", "", "b"]),
            ([[(" ", 30), (" ", 30)]], ["  "]),
            ([[("xyz", 0), (" ", 999999999999), ("q", 7)]], ["q xyz"]),
        ]:
            kept = copy.deepcopy(galley)
            self.assertEqual(pull_of(galley), pull)
            self.assertEqual(galley, kept)

    def test_the_pull_is_what_was_keyed_and_not_struck(self):
        lines = [(["ffi", " ", "a"], "open"), (["b"], "struck"), ([], "open"), (["a", " ", "b"], "kept"),
                 ([" "], "open")]
        job = JOB[:4] + (300,)
        self.assertEqual(pull_of(cast_ribbon(job, ribbon_of(job, lines))), ["ffi a", "", "a b", " "])

    def test_each_list_is_a_new_one(self):
        pull_of([]).append("zzz")
        self.assertEqual(pull_of([]), [])
        galley = [[("b", 60)], []]
        self.assertIsNot(pull_of(galley), pull_of(galley))
        pull = pull_of(galley)
        galley[0].append(("a", 50))
        self.assertEqual(pull, ["", "b"])


if __name__ == "__main__":
    unittest.main()
