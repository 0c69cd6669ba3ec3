import copy
import random
import unittest

from ribboncast.errors import CastError, Loose, Tight, TooMany
from ribboncast.holes import read_holes
from ribboncast.ribbons import ribbon_of, rows_of
from things import CASE, PLAIN_CASE, chance_names, ribbon_by_the_document, rows_by_the_document, told

# a 50 grains, b 60, c 40, d 90, e 100, f 80, ff 180, ffi 170, i 10; a blank from 30 to 478, by twos.
JOB = (CASE, 10, 30, 2, 200)

COARSE_0 = (14, 28, 29)
FINE_0 = (14, 28, 30)
STRUCK = (28, 29, 30)


def with_measure(measure):
    return JOB[:4] + (measure,)


class Rows(unittest.TestCase):
    def test_rows_of_a_kept_line(self):
        # a, the blank and b have 140 grains: 60 lack, which are 30 fine steps.
        self.assertEqual(rows_of(JOB, (["a", " ", "b"], "kept")),
                         [(0, 14), (1, 28), (1, 14, 29), (16, 28, 29), (14, 28, 30)])
        # 58 lack: 29 fine steps, of which 14 are struck as nothing.
        self.assertEqual(rows_of(with_measure(198), (["a", " ", "b"], "kept")),
                         [(0, 14), (1, 28), (1, 14, 29), (15, 28, 29), (28, 30)])

    def test_rows_of_each_cell(self):
        names = ["a", "b", "c", "d", "e", "f", "ff", "ffi", " ", "i"]
        self.assertEqual(rows_of(JOB, (names, "struck")), [
            (0, 14), (1, 14, 29), (14, 30), (0, 15), (1, 15, 29), (15, 30), (0, 16), (16, 30), (1, 28), (30,), STRUCK,
        ])

    def test_the_last_step_is_struck_as_nothing(self):
        job = with_measure(588)
        self.assertEqual(rows_of(job, (["a", " ", "b"], "kept"))[3:], [(28, 29), (28, 30)])

    def test_rows_of_an_open_line(self):
        for names, rows in [
            ([], []),
            (["a"], [(0, 14)]),
            (["a", " ", "b"], [(0, 14), (1, 28), (1, 14, 29)]),
            ([" "], [(1, 28)]),
            (["ff"], [(0, 16)]),
        ]:
            self.assertEqual(rows_of(JOB, (names, "open")), rows + [COARSE_0, FINE_0])

    def test_rows_of_a_struck_line(self):
        for names, rows in [
            ([], []),
            (["a"], [(0, 14)]),
            ([" ", " "], [(1, 28), (1, 28)]),
            (["ff"] * 60, [(0, 16)] * 60),
        ]:
            self.assertEqual(rows_of(JOB, (names, "struck")), rows + [STRUCK])

    def test_a_kept_line_without_blanks(self):
        self.assertEqual(rows_of(with_measure(110), (["a", "b"], "kept")), [(0, 14), (1, 14, 29), COARSE_0, FINE_0])

    def test_tight(self):
        for way in ("kept", "open"):
            for measure, over in [(139, 1), (138, 2), (1, 139)]:
                with self.assertRaises(Tight) as refused:
                    rows_of(with_measure(measure), (["a", " ", "b"], way))
                self.assertEqual(refused.exception.by, over)
                self.assertIsInstance(refused.exception, CastError)
            self.assertEqual(rows_of(with_measure(140), (["a", " ", "b"], way))[3:], [COARSE_0, FINE_0])

    def test_loose_are_kept_lines_alone(self):
        for names, measure, lacking in [(["a", " ", "b"], 590, 2), (["a"], 51, 1), ([], 1, 1), ([], 200, 200)]:
            job = with_measure(measure)
            with self.assertRaises(Loose) as refused:
                rows_of(job, (names, "kept"))
            self.assertEqual(refused.exception.by, lacking)
            self.assertEqual(rows_of(job, (names, "open"))[-2:], [COARSE_0, FINE_0])
            self.assertEqual(rows_of(job, (names, "struck"))[-1:], [STRUCK])

    def test_a_struck_line_is_neither_tight_nor_loose(self):
        for measure in (1, 139, 590, 1000000):
            rows = rows_of(with_measure(measure), (["a", " ", "b"], "struck"))
            self.assertEqual(rows, [(0, 14), (1, 28), (1, 14, 29), STRUCK])

    def test_against_the_document(self):
        chance = random.Random(17)
        seen = {}
        for trial in range(600):
            case = chance.choice([CASE, PLAIN_CASE])
            job = (case, chance.randint(1, 9), chance.randint(1, 30), chance.randint(1, 4), chance.randint(1, 500))
            line = (chance_names(chance, case, chance.choice([3, 9, 60])), chance.choice(["kept", "open", "struck"]))
            due = rows_by_the_document(job, line)
            self.assertEqual(told(rows_of, job, line), due, (job, line))
            kind = (line[1], due[0] if isinstance(due, tuple) else None)
            seen[kind] = seen.get(kind, 0) + 1
        self.assertEqual(len(seen), 6)
        self.assertGreater(min(seen.values()), 20)

    def test_each_row_is_that_of_one_sign(self):
        rows = rows_of(JOB, (["a", " ", "b"], "kept"))
        signs = [read_holes((3, 4), row) for row in rows]
        self.assertEqual(signs, [("letter", 0, 0, 0), ("blank", 1, 3), ("letter", 1, 0, 1), ("coarse", 2), ("fine", 0)])

    def test_each_list_is_a_new_one(self):
        for line in [(["a", " ", "b"], "kept"), ([], "open"), ([], "struck")]:
            kept = copy.deepcopy(line)
            first = rows_of(JOB, line)
            self.assertIs(isinstance(first, list), True)
            self.assertEqual([isinstance(row, tuple) for row in first], [True] * len(first))
            second = rows_of(JOB, line)
            self.assertIsNot(first, second)
            first.clear()
            self.assertEqual(rows_of(JOB, line), second)
            self.assertEqual(line, kept)


class Ribbons(unittest.TestCase):
    def test_no_lines(self):
        self.assertEqual(ribbon_of(JOB, []), [])
        ribbon_of(JOB, []).append((0,))
        self.assertEqual(ribbon_of(JOB, []), [])

    def test_one_line(self):
        for line in [(["a", " ", "b"], "kept"), (["a"], "open"), ([], "struck"), ([], "open")]:
            self.assertEqual(ribbon_of(JOB, [line]), rows_of(JOB, line))

    def test_many_lines(self):
        lines = [(["a"], "open"), ([], "struck"), (["b", " "], "struck"), (["b", " ", "a"], "kept"), ([], "open")]
        self.assertEqual(ribbon_of(JOB, lines), [
            (0, 14), COARSE_0, FINE_0,
            STRUCK,
            (1, 14, 29), (1, 28), STRUCK,
            (1, 14, 29), (1, 28), (0, 14), (16, 28, 29), FINE_0,
            COARSE_0, FINE_0,
        ])

    def test_the_first_line_that_is_refused(self):
        fair = (["a", " ", "b"], "kept")
        tight = (["ff", "ff"], "open")
        tighter = (["ff", "ff", "a"], "kept")
        loose = (["a"], "kept")
        looser = ([], "kept")
        for lines, due in [
            ([fair, tight, tighter, loose], ("Tight", 160)),
            ([fair, tighter, tight, loose], ("Tight", 210)),
            ([fair, fair, loose, tight], ("Loose", 150)),
            ([looser, loose, tight, fair], ("Loose", 200)),
            ([fair] * 5 + [tight], ("Tight", 160)),
        ]:
            self.assertEqual(told(ribbon_of, JOB, lines), due)

    def test_four_hundred_rows_and_one_more(self):
        for lines, many in [
            ([([], "struck")] * 400, 400),
            ([([], "struck")] * 401, 401),
            ([([], "open")] * 200, 400),
            ([([], "open")] * 200 + [([], "struck")], 401),
            ([(["a"] * 49, "struck")] * 8, 400),
            ([(["a"] * 49, "struck")] * 7 + [(["a"] * 50, "struck")], 401),
            ([(["a", " ", "b"], "kept")] * 80, 400),
            ([(["a", " ", "b"], "kept")] * 81, 405),
            ([(["a"] * 60, "struck")] * 400, 24400),
        ]:
            if many <= 400:
                self.assertEqual(len(ribbon_of(JOB, lines)), many)
            else:
                with self.assertRaises(TooMany) as refused:
                    ribbon_of(JOB, lines)
                self.assertIsInstance(refused.exception, CastError)

    def test_too_many_comes_behind_all_else(self):
        full = [(["a"] * 60, "struck")] * 10
        self.assertEqual(told(ribbon_of, JOB, full + [(["ff", "ff"], "open")]), ("Tight", 160))
        self.assertEqual(told(ribbon_of, JOB, full + [(["a"], "kept")]), ("Loose", 150))
        self.assertEqual(told(ribbon_of, JOB, full + [(["a"], "open")]), ("TooMany", None))

    def test_rows_of_one_line_may_be_many(self):
        self.assertEqual(len(rows_of(with_measure(1000000), (["a"] * 60, "open"))), 62)

    def test_against_the_document(self):
        chance = random.Random(171)
        seen = {}
        for trial in range(150):
            job = (CASE, 1, chance.randint(1, 5), 1, chance.randint(60, 160))
            ways = chance.choice([["kept", "open", "struck"], ["struck", "struck", "open"], ["struck"]])
            lines = [(chance_names(chance, CASE, 12), chance.choice(ways)) for line in range(chance.randint(0, 90))]
            due = ribbon_by_the_document(job, lines)
            self.assertEqual(told(ribbon_of, job, lines), due)
            kind = due[0] if isinstance(due, tuple) else "ribbon"
            seen[kind] = seen.get(kind, 0) + 1
        self.assertEqual(sorted(seen), ["Loose", "Tight", "TooMany", "ribbon"])

    def test_what_is_handed_in_stays_and_may_be_changed(self):
        names = ["a", " ", "b"]
        lines = [(names, "kept"), ([], "open"), (names, "struck")]
        kept = copy.deepcopy(lines)
        ribbon = ribbon_of(JOB, lines)
        rows = rows_of(JOB, lines[0])
        self.assertEqual(lines, kept)
        due = copy.deepcopy((ribbon, rows))
        names.append("ffi")
        lines.clear()
        self.assertEqual((ribbon, rows), due)
        self.assertIsNot(ribbon_of(JOB, kept), ribbon_of(JOB, kept))
        ribbon.clear()
        self.assertEqual(ribbon_of(JOB, kept), due[0])


if __name__ == "__main__":
    unittest.main()
