import copy
import itertools
import random
import unittest

from ribboncast.cases import is_case
from ribboncast.errors import CastError, Loose, Tight
from ribboncast.keyboard import bell_at, is_job, line_width, steps_of
from things import ALL_STEPS, CASE, ODD_THINGS, PLAIN_CASE, steps_by_the_document, width_by_the_document

JOB = (CASE, 10, 30, 2, 1000)

# How far each of a job's four numbers goes, by its place.
BOUNDS = {1: 1000, 2: 100000, 3: 1000, 4: 1000000}


def with_part(job, at, part):
    return job[:at] + (part,) + job[at + 1:]


def told_steps(job, names):
    """What is told of a line, in the form of steps_by_the_document."""
    try:
        return steps_of(job, names)
    except (Tight, Loose) as e:
        return (e.__class__.__name__, e.by)


def chance_job(chance, case):
    return (case, chance.randint(1, 12), chance.randint(1, 40), chance.randint(1, 5), chance.randint(1, 900))


class Jobs(unittest.TestCase):
    def test_jobs(self):
        for job in [JOB, (PLAIN_CASE, 1, 1, 1, 1), (PLAIN_CASE, 1000, 100000, 1000, 1000000)]:
            self.assertIs(is_job(job), True)

    def test_numbers_round_the_bounds(self):
        for at, greatest in BOUNDS.items():
            for number in [1, 2, 100, greatest - 1, greatest]:
                self.assertIs(is_job(with_part(JOB, at, number)), True, (at, number))
            for number in [0, -1, -greatest, greatest + 1, greatest + 2, 999999999999, -999999999999]:
                self.assertIs(is_job(with_part(JOB, at, number)), False, (at, number))

    def test_each_number_has_its_own_bound(self):
        self.assertIs(is_job((PLAIN_CASE, 1000, 100000, 1000, 1000000)), True)
        for numbers in set(itertools.permutations([1000, 100000, 1001, 1000000])):
            self.assertIs(is_job((PLAIN_CASE,) + numbers), False, numbers)

    def test_truths_and_other_things_in_a_numbers_place(self):
        for at in BOUNDS:
            for part in [True, False, None, "", "1", "a", [], [1], (), (1,), (1, 1), CASE]:
                self.assertIs(is_job(with_part(JOB, at, part)), False, (at, part))

    def test_other_things_for_the_case(self):
        units, cells = CASE
        for thing in [None, True, 1, "", "a", [], (), [units, cells], (units,), (units, cells, units), (cells, units),
                      units, cells, ((0,) + units[1:], cells), ((31,) + units[1:], cells), (units[1:], cells[1:] + cells[:1])]:
            self.assertIs(is_case(thing), False)
            self.assertIs(is_job(with_part(JOB, 0, thing)), False, thing)

    def test_one_thing_more_or_less(self):
        for at in range(6):
            if at < 5:
                self.assertIs(is_job(JOB[:at] + JOB[at + 1:]), False, at)
            for more in (1, 0, None, True, "", (), CASE):
                self.assertIs(is_job(JOB[:at] + (more,) + JOB[at:]), False, at)

    def test_the_order_of_its_things(self):
        self.assertIs(is_job(JOB[1:] + JOB[:1]), False)
        self.assertIs(is_job((10, CASE, 30, 2, 1000)), False)

    def test_a_list_for_the_tuple(self):
        self.assertIs(is_job(list(JOB)), False)
        self.assertIs(is_job([JOB]), False)
        self.assertIs(is_job((JOB,)), False)

    def test_odd_things(self):
        for thing in ODD_THINGS:
            self.assertIs(is_job(thing), False)
            self.assertIs(is_job((thing,) * 5), False)
            self.assertIs(is_job(with_part(JOB, 0, thing)), False)

    def test_what_is_judged_stays(self):
        for thing in [list(JOB), [[CASE], 1, 1, 1, 1], (["a"], 1, 1, 1, 1), (CASE, [1], [2], [3], [4])]:
            kept = copy.deepcopy(thing)
            self.assertIs(is_job(thing), False)
            self.assertEqual(thing, kept)


class Widths(unittest.TestCase):
    def test_written_ones(self):
        for names, steps, width in [
            ([], (0, 0), 0),
            ([], (14, 14), 0),
            (["a"], (0, 0), 50),
            (["b"], (0, 0), 60),
            (["c"], (0, 0), 40),
            (["a"], (14, 14), 50),
            (["ffi"], (3, 4), 170),
            (["ff"], (3, 4), 180),
            (["i"], (0, 1), 10),
            ([" "], (0, 0), 30),
            ([" "], (0, 1), 32),
            ([" "], (1, 0), 60),
            ([" "], (1, 1), 62),
            ([" "], (14, 14), 478),
            ([" ", " "], (2, 3), 2 * (30 + 2 * 33)),
            (["a", " ", "b"], (0, 0), 140),
            (["a", " ", "b"], (1, 2), 174),
            (["d", "e", "f", " ", "ffi", " "], (0, 7), 90 + 100 + 80 + 44 + 170 + 44),
        ]:
            self.assertEqual(line_width(JOB, names, steps), width, (names, steps))

    def test_a_blank_has_not_its_rows_units(self):
        case = ((7, 7), ((("a", 0), (" ", 0)), (None, None)))
        self.assertEqual(line_width((case, 100, 1, 1, 1), ["a", " "], (0, 0)), 701)

    def test_each_pair_of_steps(self):
        for names in [["a", " ", "ffi", " ", " ", "c"], ["b", "b"], [" "], []]:
            for steps in ALL_STEPS:
                self.assertEqual(line_width(JOB, names, steps), width_by_the_document(JOB, names, steps))

    def test_at_the_bounds(self):
        case = ((30, 1), ((("a", 1), ("b", 0)), (("c", 0), (" ", 0))))
        self.assertEqual(line_width((case, 1000, 100000, 1000, 1), ["a"] * 48 + [" "] * 12, (14, 14)),
                         48 * 31000 + 12 * (100000 + 224000))
        self.assertEqual(line_width((case, 1, 1, 1, 1), ["c"] * 60, (14, 14)), 60)
        self.assertEqual(line_width((case, 1, 1, 1, 1), ["c"] * 48 + [" "] * 12, (0, 0)), 60)

    def test_the_measure_changes_no_width(self):
        for measure in (1, 139, 140, 1000000):
            self.assertEqual(line_width(with_part(JOB, 4, measure), ["a", " ", "b"], (0, 0)), 140)

    def test_names_stay_as_they_were(self):
        names = ["a", " ", "ffi"]
        line_width(JOB, names, (3, 3))
        self.assertEqual(names, ["a", " ", "ffi"])


class Steps(unittest.TestCase):
    def test_written_ones(self):
        # a and b have 110 grains, the blank 30 at least, each fine step 2.
        for measure, told in [
            (139, ("Tight", 1)),
            (1, ("Tight", 139)),
            (140, (0, 0)),
            (141, (0, 0)),
            (142, (0, 1)),
            (143, (0, 1)),
            (168, (0, 14)),
            (169, (0, 14)),
            (170, (1, 0)),
            (171, (1, 0)),
            (587, (14, 13)),
            (588, (14, 14)),
            (589, (14, 14)),
            (590, ("Loose", 2)),
            (591, ("Loose", 3)),
            (1000000, ("Loose", 999412)),
        ]:
            self.assertEqual(told_steps(with_part(JOB, 4, measure), ["a", " ", "b"]), told, measure)

    def test_refusals_are_of_their_classes(self):
        with self.assertRaises(Tight) as told:
            steps_of(with_part(JOB, 4, 100), ["a", " ", "b"])
        self.assertEqual(told.exception.by, 40)
        self.assertIsInstance(told.exception, CastError)
        with self.assertRaises(Loose) as told:
            steps_of(with_part(JOB, 4, 600), ["a", " ", "b"])
        self.assertEqual(told.exception.by, 12)
        self.assertIsInstance(told.exception, CastError)

    def test_steps_are_a_tuple_of_two(self):
        for names, measure in [(["a", " "], 100), (["a"], 50)]:
            steps = steps_of(with_part(JOB, 4, measure), names)
            self.assertIs(isinstance(steps, tuple), True)
            self.assertEqual(len(steps), 2)

    def test_the_edge_of_one_fine_step_for_each_blank(self):
        # Twelve blanks, each fine step 7: 84 grains for each widening of all.
        for blanks in range(1, 13):
            job = (PLAIN_CASE, 1, 5, 7, 1)
            names = [" "] * blanks
            greatest = blanks * (5 + 224 * 7)
            for more in range(-1, 7 * blanks):
                told = (14, 14) if more >= 0 else (14, 13)
                self.assertEqual(told_steps(with_part(job, 4, greatest + more), names), told)
            for more in (0, 1, 500):
                told = told_steps(with_part(job, 4, greatest + 7 * blanks + more), names)
                self.assertEqual(told, ("Loose", 7 * blanks + more))

    def test_lines_without_blanks(self):
        for names, width in [(["a"], 50), (["a", "b", "c"], 150), (["ffi", "i"], 180)]:
            for over in (1, 2, width - 1):
                self.assertEqual(told_steps(with_part(JOB, 4, width - over), names), ("Tight", over))
            self.assertEqual(told_steps(with_part(JOB, 4, width), names), (0, 0))
            for lacking in (1, 2, 3, 448, 449, 1000):
                self.assertEqual(told_steps(with_part(JOB, 4, width + lacking), names), ("Loose", lacking))

    def test_the_empty_line(self):
        for measure in (1, 2, 1000000):
            self.assertEqual(told_steps(with_part(JOB, 4, measure), []), ("Loose", measure))

    def test_blanks_alone(self):
        self.assertEqual(told_steps(with_part(JOB, 4, 29), [" "]), ("Tight", 1))
        self.assertEqual(told_steps(with_part(JOB, 4, 30), [" "]), (0, 0))
        self.assertEqual(told_steps(with_part(JOB, 4, 61), [" "]), (1, 0))
        self.assertEqual(told_steps(with_part(JOB, 4, 61), [" ", " "]), (0, 0))
        self.assertEqual(told_steps(with_part(JOB, 4, 64), [" ", " "]), (0, 1))

    def test_blanks_anywhere(self):
        for names in set(itertools.permutations(["a", "b", " ", " "])):
            self.assertEqual(told_steps(with_part(JOB, 4, 300), list(names)), (2, 2))

    def test_against_all_pairs(self):
        chance = random.Random(13)
        told = {}
        for trial in range(1500):
            job = chance_job(chance, chance.choice([CASE, PLAIN_CASE]))
            letters = ["a", "b", "c"]
            names = [chance.choice(letters) for letter in range(chance.choice([0, 1, 2, 5, 20]))]
            names += [" "] * chance.choice([0, 0, 1, 1, 2, 3, 12])
            chance.shuffle(names)
            if not names or chance.random() < 0.6:
                # A measure near the edges of the line itself.
                width = width_by_the_document(job, names, chance.choice([(0, 0), (14, 14), (3, 9)]))
                job = with_part(job, 4, max(1, width + chance.randint(-40, 40)))
            due = steps_by_the_document(job, names)
            self.assertEqual(told_steps(job, names), due, (job, names))
            kind = due[0] if isinstance(due[0], str) else "kept"
            told[kind] = told.get(kind, 0) + 1
        self.assertTrue(min(told.values()) > 100 and len(told) == 3, told)

    def test_what_is_kept_comes_to_the_measure(self):
        chance = random.Random(3)
        for trial in range(500):
            job = chance_job(chance, PLAIN_CASE)
            names = ["a", " ", "b", " ", "c"][:chance.randint(1, 5)]
            told = told_steps(job, names)
            if not isinstance(told[0], str):
                short = job[4] - line_width(job, names, told)
                self.assertTrue(0 <= short < max(1, job[3] * names.count(" ")))

    def test_at_the_bounds_of_a_job(self):
        names = ["a"] * 48 + [" "] * 12
        self.assertEqual(told_steps((PLAIN_CASE, 1, 1, 1, 1000000), names), ("Loose", 1000000 - 48 - 12 * 225))
        self.assertEqual(told_steps((PLAIN_CASE, 1000, 100000, 1000, 1), names), ("Tight", 48000 + 1200000 - 1))
        self.assertEqual(told_steps((PLAIN_CASE, 1000, 1, 1000, 1000000), names), (5, 4))

    def test_names_stay_as_they_were(self):
        for names in (["a", " ", "b"], ["a"], []):
            kept = list(names)
            told_steps(with_part(JOB, 4, 200), names)
            self.assertEqual(names, kept)


class Bell(unittest.TestCase):
    def by_the_document(self, job, names):
        for many in range(len(names) + 1):
            if not isinstance(steps_by_the_document(job, names[:many])[:1][0], str):
                return many
        return None

    def test_written_ones(self):
        # a 50, a blank from 30 to 478, with 1 grain more that it may lack.
        names = ["a", " ", "a", "a", " ", "a"]
        for measure, told in [
            (1, None), (49, None), (50, 1), (51, None), (79, None), (80, 2), (528, 2), (529, 2), (530, 3), (579, 3),
            (580, 4), (629, 4), (630, 5), (1107, 5), (1108, 5), (1109, 5), (1110, 6), (1156, 6), (1159, 6),
            (1160, None), (1000000, None),
        ]:
            self.assertEqual(bell_at(with_part(JOB, 4, measure), names), told, measure)

    def test_the_empty_line(self):
        for measure in (1, 100, 1000000):
            self.assertIsNone(bell_at(with_part(JOB, 4, measure), []))

    def test_names_behind_the_bell_change_nothing(self):
        for behind in ([], ["ff"] * 40, [" "] * 11):
            self.assertEqual(bell_at(with_part(JOB, 4, 80), ["a", " "] + behind), 2)

    def test_a_line_without_blanks_rings_at_the_measure_alone(self):
        self.assertEqual(bell_at(with_part(JOB, 4, 3000), ["a"] * 60), 60)
        self.assertEqual(bell_at(with_part(JOB, 4, 50), ["a"] * 60), 1)
        self.assertIsNone(bell_at(with_part(JOB, 4, 2999), ["a"] * 60))
        self.assertIsNone(bell_at(with_part(JOB, 4, 3001), ["a"] * 60))

    def test_against_each_number_of_names(self):
        chance = random.Random(14)
        told = {}
        for trial in range(150):
            job = chance_job(chance, PLAIN_CASE)
            names = [chance.choice(["a", "b", "c", "abc", " "]) for name in range(chance.randint(0, 12))]
            due = self.by_the_document(job, names)
            self.assertEqual(bell_at(job, names), due, (job, names))
            told[due] = True
        self.assertIn(None, told)
        self.assertGreater(len(told), 4)

    def test_names_stay_as_they_were(self):
        names = ["a", " ", "a"]
        bell_at(with_part(JOB, 4, 100), names)
        self.assertEqual(names, ["a", " ", "a"])


if __name__ == "__main__":
    unittest.main()
