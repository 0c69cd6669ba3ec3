import copy
import random
import unittest

from ribboncast.caster import cast_ribbon
from ribboncast.errors import CastError, NoEnd, NoHoles, NoLine, NoMold, TooMany
from ribboncast.mending import cast_anew, line_ranges, mend_ribbon
from ribboncast.ribbons import ribbon_of, rows_of
from things import CASE, PLAIN_CASE, ReadThrough, chance_lines, chance_names, put_otherwise, told

# a 50 grains, b 60, ff 180; a blank from 30 to 478, by twos.
JOB = (CASE, 10, 30, 2, 200)

A = (0, 14)
B = (1, 14, 29)
COARSE = (14, 28, 29)
FINE = (14, 28, 30)
STRUCK = (28, 29, 30)

RIBBON = [A, COARSE, FINE, A, B, STRUCK, COARSE, FINE, STRUCK, B, B, COARSE, FINE]
RANGES = [(0, 3), (3, 6), (6, 8), (8, 9), (9, 13)]

# What the caster refuses, and how.
WRONG = [
    ([(2,)], NoHoles, 0),
    ([A, (2,), COARSE, FINE], NoHoles, 1),
    ([A], NoEnd, 0),
    ([A, COARSE, FINE, A, FINE], NoEnd, 3),
    ([FINE], NoEnd, 0),
    ([COARSE, A, STRUCK], NoEnd, 0),
    ([A, (1, 16), COARSE, FINE], NoMold, 1),
    ([A, (1, 28), (28,), COARSE, FINE], NoMold, 2),
]


class Ranges(unittest.TestCase):
    def test_written_ones(self):
        self.assertEqual(line_ranges(JOB, RIBBON), RANGES)
        for ribbon, ranges in [
            ([], []),
            ([STRUCK], [(0, 1)]),
            ([STRUCK, STRUCK], [(0, 1), (1, 2)]),
            ([COARSE, FINE], [(0, 2)]),
            ([A, A, STRUCK], [(0, 3)]),
            ([A, COARSE, FINE], [(0, 3)]),
            ([(1, 16), STRUCK, A, COARSE, FINE], [(0, 2), (2, 5)]),
        ]:
            self.assertEqual(line_ranges(JOB, ribbon), ranges)

    def test_ranges_of_keyed_lines(self):
        chance = random.Random(20)
        for trial in range(200):
            job = (CASE, 1, chance.randint(1, 9), chance.randint(1, 3), chance.randint(20, 90))
            lines = chance_lines(chance, job, 15)
            ribbon = ribbon_of(job, lines)
            ranges = line_ranges(job, ribbon)
            self.assertEqual(len(ranges), len(lines))
            self.assertEqual([ribbon[begin:end] for begin, end in ranges], [rows_of(job, line) for line in lines])

    def test_refused_as_the_caster_does(self):
        for ribbon, error, at in WRONG:
            with self.assertRaises(error) as refused:
                line_ranges(JOB, ribbon)
            self.assertEqual(refused.exception.at, at)

    def test_each_list_is_a_new_one(self):
        ribbon = list(RIBBON)
        ranges = line_ranges(JOB, ribbon)
        self.assertEqual([isinstance(pair, tuple) for pair in ranges], [True] * 5)
        ranges.clear()
        self.assertEqual(line_ranges(JOB, ribbon), RANGES)
        self.assertEqual(ribbon, RIBBON)
        line_ranges(JOB, []).append((0, 1))
        self.assertEqual(line_ranges(JOB, []), [])


class Mending(unittest.TestCase):
    def test_each_line(self):
        rows = [B, (1, 28), B, (15, 28, 29), (24, 28, 30)]
        line = (["b", " ", "b"], "kept")
        self.assertEqual(rows_of(JOB, line), rows)
        for k, (begin, end) in enumerate(RANGES):
            self.assertEqual(mend_ribbon(JOB, RIBBON, k, line), RIBBON[:begin] + rows + RIBBON[end:])

    def test_each_way(self):
        self.assertEqual(mend_ribbon(JOB, [A, STRUCK], 0, (["b"], "open")), [B, COARSE, FINE])
        self.assertEqual(mend_ribbon(JOB, [A, STRUCK], 0, ([], "open")), [COARSE, FINE])
        self.assertEqual(mend_ribbon(JOB, [A, COARSE, FINE], 0, ([], "struck")), [STRUCK])
        self.assertEqual(mend_ribbon(JOB, [A, COARSE, FINE], 0, (["ff"] * 3, "struck")), [(0, 16)] * 3 + [STRUCK])

    def test_no_line(self):
        for ribbon, numbers in [(RIBBON, [-1, -5, -6, 5, 6, 13, 999999999999, -999999999999]), ([], [-1, 0, 1]),
                                ([STRUCK], [-1, 1])]:
            for k in numbers:
                with self.assertRaises(NoLine) as refused:
                    mend_ribbon(JOB, ribbon, k, (["a"], "open"))
                self.assertIsInstance(refused.exception, CastError)

    def test_the_caster_comes_first(self):
        for ribbon, error, at in WRONG:
            for k in (-1, 0, 7):
                for line in [(["a"], "open"), (["ff"] * 9, "kept"), ([], "kept"), (["a"] * 60, "struck")]:
                    due = (error.__name__, at)
                    self.assertEqual(told(mend_ribbon, JOB, ribbon, k, line), due)
        self.assertEqual(told(mend_ribbon, JOB, [(2,)] + [STRUCK] * 399, 0, (["a"] * 60, "struck")), ("NoHoles", 0))

    def test_no_line_comes_ahead_of_the_line_and_its_rows(self):
        for line in [(["ff"] * 9, "kept"), ([], "kept"), (["ff"] * 9, "open"), (["a"] * 60, "struck")]:
            for k in (-1, 400):
                self.assertEqual(told(mend_ribbon, JOB, [STRUCK] * 400, k, line), ("NoLine", None))

    def test_the_line_comes_ahead_of_too_many(self):
        full = [STRUCK] * 400
        self.assertEqual(told(mend_ribbon, JOB, full, 3, (["ff"] * 2, "kept")), ("Tight", 160))
        self.assertEqual(told(mend_ribbon, JOB, full, 3, (["ff"] * 2, "open")), ("Tight", 160))
        self.assertEqual(told(mend_ribbon, JOB, full, 3, (["a"], "kept")), ("Loose", 150))
        self.assertEqual(told(mend_ribbon, JOB, full, 3, (["a"], "open")), ("TooMany", None))
        self.assertEqual(told(mend_ribbon, JOB, full, 3, ([], "struck")), full)

    def test_four_hundred_rows_and_one_more(self):
        ribbon = [STRUCK] * 10 + [A] * 300 + [STRUCK]
        self.assertEqual(len(mend_ribbon(JOB, ribbon, 0, (["a"] * 89, "struck"))), 400)
        with self.assertRaises(TooMany) as refused:
            mend_ribbon(JOB, ribbon, 0, (["a"] * 90, "struck"))
        self.assertIsInstance(refused.exception, CastError)
        self.assertEqual(len(mend_ribbon(JOB, ribbon, 10, (["a"] * 60, "struck"))), 71)
        # What counts is how many rows there are in the end.
        self.assertEqual(mend_ribbon(JOB, [A] * 399 + [STRUCK], 0, (["a"] * 4, "open")), [A] * 4 + [COARSE, FINE])

    def test_all_other_lines_are_cast_as_they_were(self):
        line = (["a", " ", "a"], "kept")
        for k in range(5):
            mended = mend_ribbon(JOB, RIBBON, k, line)
            others = [number for number in range(5) if number != k]
            self.assertEqual(cast_anew(JOB, mended, others), cast_anew(JOB, RIBBON, others))
            self.assertEqual(cast_anew(JOB, mended, [k]), [[("a", 50), (" ", 100), ("a", 50)]])

    def test_against_the_document(self):
        chance = random.Random(201)
        seen = {}
        for trial in range(1500):
            case = chance.choice([CASE, PLAIN_CASE])
            job = (case, 1, chance.randint(1, 9), chance.randint(1, 3), chance.randint(15, 60))
            lines = chance_lines(chance, job, 6)
            ribbon = ribbon_of(job, lines)
            if chance.random() < 0.2:
                ribbon = put_otherwise(chance, (len(case[1][0]), len(case[0])), ribbon)
            k = chance.randint(-2, len(lines) + 1)
            line = (chance_names(chance, case, 9), chance.choice(["kept", "open", "struck"]))
            if chance.random() < 0.1:
                # Full to the last row, or nearly so.
                ribbon = [STRUCK] * chance.randint(390, 400 - len(ribbon)) + ribbon if len(ribbon) < 10 else ribbon
            due = ReadThrough(job, ribbon).mended(ribbon, k, line)
            kept = list(ribbon)
            self.assertEqual(told(mend_ribbon, job, ribbon, k, line), due)
            self.assertEqual(ribbon, kept)
            kind = due[0] if isinstance(due, tuple) else "mended"
            seen[kind] = seen.get(kind, 0) + 1
        self.assertEqual(sorted(seen), ["Loose", "NoEnd", "NoHoles", "NoLine", "NoMold", "Tight", "TooMany", "mended"])

    def test_each_list_is_a_new_one(self):
        ribbon = list(RIBBON)
        names = ["a"]
        mended = mend_ribbon(JOB, ribbon, 0, (names, "open"))
        self.assertEqual(mended, RIBBON)
        self.assertIsNot(mended, ribbon)
        mended.clear()
        self.assertEqual((ribbon, names), (RIBBON, ["a"]))
        mended = mend_ribbon(JOB, ribbon, 0, (names, "open"))
        ribbon.clear()
        names.append("b")
        self.assertEqual(mended, RIBBON)


class Anew(unittest.TestCase):
    def test_numbers_in_any_order(self):
        first, third, fifth = [("a", 50)], [], [("b", 60), ("b", 60)]
        for numbers, galley in [
            ([], []),
            ([0], [first]),
            ([2], [third]),
            ([4], [fifth]),
            ([1], []),
            ([3], []),
            ([1, 3], []),
            ([0, 2, 4], [fifth, third, first]),
            ([4, 0, 2], [fifth, third, first]),
            ([2, 4, 0], [fifth, third, first]),
            ([0, 0], [first]),
            ([4, 0, 4, 0, 4], [fifth, first]),
            ([1, 0, 1], [first]),
            ([0, 1, 2, 3, 4], [fifth, third, first]),
            ([4, 3, 2, 1, 0] * 80, [fifth, third, first]),
        ]:
            kept = list(numbers)
            self.assertEqual(cast_anew(JOB, RIBBON, numbers), galley, numbers)
            self.assertEqual(numbers, kept)

    def test_no_line(self):
        for ribbon, lists in [
            (RIBBON, [[5], [-1], [0, 5], [5, 0], [-5], [0, 1, 2, 3, 4, 5], [1, -1], [999999999999], [-999999999999]]),
            ([], [[0], [-1], [1, 0]]),
            ([STRUCK], [[1], [-1], [0, 1]]),
        ]:
            for numbers in lists:
                with self.assertRaises(NoLine) as refused:
                    cast_anew(JOB, ribbon, numbers)
                self.assertIsInstance(refused.exception, CastError)

    def test_the_caster_comes_first(self):
        for ribbon, error, at in WRONG:
            for numbers in ([], [0], [-1], [7]):
                self.assertEqual(told(cast_anew, JOB, ribbon, numbers), (error.__name__, at))

    def test_the_ribbon_without_rows(self):
        self.assertEqual(cast_anew(JOB, [], []), [])

    def test_all_lines_cast_anew_are_the_galley(self):
        chance = random.Random(202)
        for trial in range(200):
            job = (CASE, 1, chance.randint(1, 9), chance.randint(1, 3), chance.randint(20, 90))
            ribbon = ribbon_of(job, chance_lines(chance, job, 15))
            numbers = list(range(len(line_ranges(job, ribbon))))
            chance.shuffle(numbers)
            self.assertEqual(cast_anew(job, ribbon, numbers), cast_ribbon(job, ribbon))

    def test_against_the_document(self):
        chance = random.Random(203)
        seen = {}
        for trial in range(600):
            job = (CASE, 1, chance.randint(1, 9), chance.randint(1, 3), chance.randint(20, 90))
            ribbon = ribbon_of(job, chance_lines(chance, job, 8))
            if chance.random() < 0.2:
                ribbon = put_otherwise(chance, (3, 4), ribbon)
            numbers = [chance.randint(-1 if chance.random() < 0.1 else 0, 5) for number in range(chance.randint(0, 4))]
            due = ReadThrough(job, ribbon).anew(numbers)
            self.assertEqual(told(cast_anew, job, ribbon, numbers), due)
            kind = due[0] if isinstance(due, tuple) else "galley"
            seen[kind] = seen.get(kind, 0) + 1
        self.assertEqual(sorted(seen), ["NoEnd", "NoHoles", "NoLine", "NoMold", "galley"])

    def test_each_list_is_a_new_one(self):
        ribbon = list(RIBBON)
        galley = cast_anew(JOB, ribbon, [2, 0])
        kept = copy.deepcopy(galley)
        ribbon.clear()
        self.assertEqual(galley, kept)
        galley[0].append("zzz")
        galley.clear()
        self.assertEqual(cast_anew(JOB, RIBBON, [2, 0]), kept)
        cast_anew(JOB, RIBBON, []).append("zzz")
        self.assertEqual(cast_anew(JOB, RIBBON, []), [])


if __name__ == "__main__":
    unittest.main()
