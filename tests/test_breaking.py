import copy
import random
import unittest

from ribboncast.breaking import break_text, table_of, waste_of
from ribboncast.cases import is_case, named
from ribboncast.errors import CastError, NoLines, NoName
from ribboncast.keyboard import line_width, steps_of
from things import CASE, PLAIN_CASE, AllWays, joined, steps_by_the_document

# a has 1 grain, b 2, c 3; a blank from 2 to 226, all of them fine steps.
JOB = (PLAIN_CASE, 1, 2, 1, 12)


def with_measure(job, measure):
    return job[:4] + (measure,)


class Breaking(unittest.TestCase):
    def refused(self, error, job, text):
        with self.assertRaises(error) as told:
            break_text(job, text)
        self.assertIsInstance(told.exception, CastError)

    def lengths(self, job, text):
        """How many words each line has."""
        return tuple([line.count(" ") + 1 for line in break_text(job, text)])

    def held_against_all_ways(self, job, text):
        """What came of it: how many ways there were, and how many of the fewest lines and least waste."""
        ways = AllWays(job, text)
        due = ways.broken()
        self.assertEqual(table_of(job, text), ways.table(), (job, text))
        if due is None:
            self.refused(NoLines, job, text)
            return (0, 0)
        broken = break_text(job, text)
        self.assertEqual(broken, due, (job, text))
        told = ways.ways_from(0)
        self.assertEqual((len(broken), waste_of(job, broken)), min(told)[:2])
        return (len(told), len([way for way in told if way[:2] == min(told)[:2]]))

    def test_written_ones(self):
        # c c has 8 grains, 4 fine steps short; c c a has 11, and 1 more is no step for each of two blanks.
        self.assertEqual(break_text(JOB, "c c c"), [["c", " ", "c"], ["c"]])
        self.assertEqual(break_text(JOB, "c c a"), [["c", " ", "c", " ", "a"]])
        self.assertEqual(break_text(JOB, "c c a b"), [["c", " ", "c", " ", "a"], ["b"]])
        self.assertEqual(break_text(JOB, "a"), [["a"]])
        self.assertEqual(break_text(JOB, "cabca"), [["c", "abc", "a"]])
        self.assertEqual(break_text(JOB, "abc abc a"), [["abc", " ", "abc"], ["a"]])

    def test_the_least_waste_of_the_fewest_lines(self):
        # A line of one word without blanks has steps where it is just the measure.
        job = with_measure(JOB, 9)
        self.assertEqual(self.lengths(job, "a a a cc"), (3, 1))
        self.assertEqual(self.lengths(job, "ccc a cc"), (1, 2))
        self.assertEqual(self.lengths(job, "a a cc a"), (2, 2))
        self.assertEqual(self.lengths(with_measure(JOB, 6), "b b c a a"), (2, 2, 1))

    def test_fewest_lines_come_ahead_of_waste(self):
        # Ten words of 1 grain, then words of 40, 19, 1, 58 and 1.
        text = " ".join(["a"] * 10 + ["c" * 13 + "a", "c" * 6 + "a", "a", "c" * 19 + "a", "a"])
        job = (PLAIN_CASE, 1, 1, 1, 60)
        words = [named(PLAIN_CASE, word) for word in text.split(" ")]
        four_lines = [joined(words[:10]), joined(words[10:12]), joined(words[12:14]), joined(words[14:])]
        self.assertEqual(waste_of(job, four_lines), 16)
        self.assertEqual(self.lengths(job, text), (11, 2, 2))
        self.assertEqual(waste_of(job, break_text(job, text)), 39 ** 2)
        self.held_against_all_ways(job, text)

    def test_fewest_words_in_the_first_lines_where_all_else_is_one(self):
        found = 0
        chance = random.Random(151)
        for trial in range(400):
            job = (PLAIN_CASE, 1, chance.randint(1, 3), chance.randint(1, 9), chance.randint(6, 14))
            text = " ".join([chance.choice(["a", "b", "c"]) for word in range(7)])
            ways, best = self.held_against_all_ways(job, text)
            found += best > 1
        self.assertGreater(found, 20)

    def test_against_all_ways(self):
        chance = random.Random(15)
        refused = 0
        broken = 0
        for trial in range(300):
            case = chance.choice([CASE, PLAIN_CASE])
            unit = chance.randint(1, 3)
            wide = 5 if case == CASE else 2
            measure = chance.randint(1, 7 * wide * unit)
            job = (case, unit, chance.randint(1, 2 * wide), chance.choice([1, 1, 2, 5]), measure)
            words = ["a", "b", "c", "ab", "ca", "abc", "bb"]
            text = " ".join([chance.choice(words) for word in range(chance.randint(1, 8))])
            ways, best = self.held_against_all_ways(job, text)
            refused += ways == 0
            broken += ways > 1
        self.assertTrue(refused > 30 and broken > 60, (refused, broken))

    def test_the_lines_are_all_the_words(self):
        text = "a b c ab ba cab abc c c b a abab cc"
        broken = break_text(with_measure(JOB, 20), text)
        self.assertEqual(" ".join(["".join(line) for line in broken]), text)
        for line in broken[:-1]:
            self.assertEqual(len(steps_of(with_measure(JOB, 20), line)), 2)

    def test_the_last_line_is_not_held_to_the_measure_from_below(self):
        for measure in (4, 5, 6, 100, 1000000):
            self.assertEqual(break_text(with_measure(JOB, measure), "a a"), [["a", " ", "a"]])
        self.refused(NoLines, with_measure(JOB, 3), "a a")
        for measure in (1, 2, 1000000):
            self.assertEqual(break_text(with_measure(JOB, measure), "a"), [["a"]])
        self.refused(NoLines, with_measure(JOB, 1), "b")
        self.assertEqual(table_of(with_measure(JOB, 1), "b"), [None, (0, 0)])

    def test_a_line_of_one_word_is_just_the_measure(self):
        self.assertEqual(break_text(with_measure(JOB, 3), "c c c"), [["c"], ["c"], ["c"]])
        self.assertEqual(break_text(with_measure(JOB, 3), "c c b"), [["c"], ["c"], ["b"]])
        self.refused(NoLines, with_measure(JOB, 3), "c b c")
        self.refused(NoLines, with_measure(JOB, 4), "c c c")
        self.refused(NoLines, with_measure(JOB, 2), "c c c")

    def test_a_line_of_sixty_names_at_most(self):
        # 57 names in a word and one behind a blank are 59; with 58 they are 60, with 59 one too many.
        for many in (57, 58, 59, 60):
            job = with_measure(JOB, many + 4)
            lines = [["a"] * many + [" ", "a"]] if many <= 58 else None
            if lines:
                self.assertEqual(break_text(job, "a" * many + " a"), lines)
            else:
                self.refused(NoLines, job, "a" * many + " a")
                self.assertEqual(table_of(job, "a" * many + " a"), [None, (1, 0), (0, 0)])
        self.assertEqual(break_text(with_measure(JOB, 1000), "a" * 60), [["a"] * 60])
        self.refused(NoLines, with_measure(JOB, 1000), "a" * 61)
        self.assertEqual(table_of(with_measure(JOB, 1000), "a" * 61), [None, (0, 0)])
        self.assertEqual(table_of(with_measure(JOB, 1000), "a" * 61 + " a"), [None, (1, 0), (0, 0)])

    def test_sixty_names_count_also_ahead_of_the_last_line(self):
        # 29 and 30 names with a blank are 60; the line is kept at its natural width.
        text = "a" * 29 + " " + "a" * 30 + " b"
        self.assertEqual(self.lengths(with_measure(JOB, 61), text), (2, 1))
        self.refused(NoLines, with_measure(JOB, 62), "a" * 30 + " " + "a" * 30 + " b")

    def test_names_count_and_not_signs(self):
        job = with_measure(JOB, 1000)
        self.assertEqual(break_text(job, "abc" * 60), [["abc"] * 60])
        self.refused(NoLines, job, "abc" * 61)

    def test_a_line_of_twelve_blanks_at_most(self):
        job = with_measure(JOB, 1000)
        self.assertEqual(self.lengths(job, " ".join("a" * 13)), (13,))
        # Two lines are due then, so the words in the first are those with the least waste: the most.
        self.assertEqual(self.lengths(with_measure(JOB, 100), " ".join("a" * 14)), (13, 1))
        self.assertEqual(self.lengths(with_measure(JOB, 100), " ".join("a" * 26)), (13, 13))
        self.assertEqual(self.lengths(with_measure(JOB, 100), " ".join("a" * 27)), (13, 13, 1))
        self.assertEqual(table_of(job, " ".join("a" * 13))[0], (1, 0))
        self.assertEqual(table_of(with_measure(JOB, 37), " ".join("a" * 14))[0], (2, 0))
        self.assertEqual(table_of(with_measure(JOB, 1000000), " ".join("a" * 14))[0], None)
        self.refused(NoLines, with_measure(JOB, 1000000), " ".join("a" * 14))

    def test_no_name_comes_ahead_of_no_lines(self):
        for text in ["x", "a x", "x a", "c c c x", "a b ax", "A", "a B", "a 1", "a-a", "a\tb", "a\n", "\u00e4",
                     "c c c c \u00e4"]:
            for measure in (1, 4, 1000000):
                job = with_measure(JOB, measure)
                self.refused(NoName, job, text)
                with self.assertRaises(NoName):
                    table_of(job, text)
        self.refused(NoLines, with_measure(JOB, 1), "c c c")

    def test_words_are_named_by_the_longest_names(self):
        case = ((5, 9), ((("f", 0), (" ", 0), ("i", -1)), (("ff", 1), ("o", 0), ("ffi", 0))))
        self.assertIs(is_case(case), True)
        job = (case, 1, 4, 1, 40)
        self.assertEqual(break_text(job, "offi of ff"), [["o", "ffi", " ", "o", "f"], ["ff"]])
        self.refused(NoName, job, "offi ofa")

    def test_the_empty_text(self):
        for measure in (1, 1000000):
            self.assertEqual(break_text(with_measure(JOB, measure), ""), [])
            self.assertEqual(table_of(with_measure(JOB, measure), ""), [(0, 0)])

    def test_forty_words(self):
        # Gone through one by one, there would be 2 to the 39th ways.
        for word, measure in [("a", 10), ("a", 30), ("ab", 40), ("c", 17), ("ca", 60)]:
            job = with_measure(JOB, measure)
            text = " ".join([word] * 40)
            broken = break_text(job, text)
            self.assertEqual(" ".join(["".join(line) for line in broken]), text)
            self.assertEqual(table_of(job, text)[0], (len(broken), waste_of(job, broken)))
            self.assertEqual(len(table_of(job, text)), 41)

    def test_forty_words_that_cannot_be_broken(self):
        # The last word is too wide for any line, which no word ahead of it shows.
        job = with_measure(JOB, 30)
        text = " ".join(["a"] * 39 + ["c" * 11])
        self.refused(NoLines, job, text)
        self.assertEqual(table_of(job, text), [None] * 40 + [(0, 0)])

    def test_long_words(self):
        self.refused(NoLines, with_measure(JOB, 1000000), " ".join(["a" * 149] * 40))
        self.refused(NoName, with_measure(JOB, 1000000), " ".join(["a" * 149] * 39 + ["x" * 149]))

    def test_every_list_is_a_new_one(self):
        job = with_measure(JOB, 3)
        first = break_text(job, "c c c")
        self.assertIs(isinstance(first, list), True)
        self.assertEqual(len({id(line) for line in first}), 3)
        for line in first:
            self.assertIs(isinstance(line, list), True)
            line.append("zzz")
        first.clear()
        self.assertEqual(break_text(job, "c c c"), [["c"], ["c"], ["c"]])
        for text in ("c c c", ""):
            self.assertIsNot(break_text(job, text), break_text(job, text))
            self.assertIsNot(table_of(job, text), table_of(job, text))
        break_text(job, "").append("zzz")
        self.assertEqual(break_text(job, ""), [])


class Waste(unittest.TestCase):
    def test_written_ones(self):
        for broken, waste in [
            ([], 0),
            ([["a"]], 0),
            ([["a", " ", "a"]], 0),
            # c c lacks 4 of the measure with one blank, c a b nothing but 2 with two, so a step each.
            ([["c", " ", "c"], ["c"]], 16),
            ([["c", " ", "a", " ", "b"], ["c"]], 1),
            ([["c", " ", "c"], ["c", " ", "a", " ", "b"], ["c"]], 17),
            ([["c", " ", "c"], ["c", " ", "a", " ", "b"], ["c", " ", "c"]], 17),
            ([["c"] * 4, ["c"]], 0),
            ([["c"] * 4, ["c"] * 4], 0),
            ([["b", " ", "b"], ["a", " ", "b"], ["a"]], 36 + 49),
        ]:
            self.assertEqual(waste_of(JOB, broken), waste, broken)

    def test_coarse_and_fine_steps(self):
        for measure in range(4, 229):
            widening = measure - 4
            job = with_measure(JOB, measure)
            self.assertEqual(waste_of(job, [["a", " ", "a"], ["a"]]), widening ** 2)
            self.assertEqual(waste_of(job, [["a", " ", "a"]] * 3), 2 * widening ** 2)

    def test_of_lines_that_are_not_the_best(self):
        job = with_measure(JOB, 20)
        for lengths in [(2, 2, 2), (3, 3), (4, 2), (2, 4), (6,)]:
            words = [["a"], ["b"], ["c"], ["a"], ["b"], ["c"]]
            broken = []
            for many in lengths:
                broken.append(joined(words[:many]))
                words = words[many:]
            due = 0
            for line in broken[:-1]:
                coarse, fine = steps_by_the_document(job, line)
                due += (15 * coarse + fine) ** 2
            self.assertEqual(waste_of(job, broken), due)

    def test_lines_stay_as_they_were(self):
        broken = [["c", " ", "c"], ["c", " ", "a", " ", "b"], ["c"]]
        kept = copy.deepcopy(broken)
        waste_of(JOB, broken)
        self.assertEqual(broken, kept)


class Table(unittest.TestCase):
    def test_written_ones(self):
        self.assertEqual(table_of(JOB, "c c c"), [(2, 16), (1, 0), (1, 0), (0, 0)])
        self.assertEqual(table_of(JOB, "a"), [(1, 0), (0, 0)])
        self.assertEqual(table_of(with_measure(JOB, 3), "c c a a c"), [None, None, None, None, (1, 0), (0, 0)])
        self.assertEqual(table_of(with_measure(JOB, 4), "c a a c"), [None, (2, 0), None, (1, 0), (0, 0)])
        self.assertEqual(table_of(with_measure(JOB, 3), "b c c b"), [None, (3, 0), (2, 0), (1, 0), (0, 0)])

    def test_entries_are_tuples_of_two_or_none(self):
        for entry in table_of(with_measure(JOB, 4), "c a a c"):
            if entry is not None:
                self.assertIs(isinstance(entry, tuple), True)
                self.assertEqual([isinstance(number, int) for number in entry], [True, True])

    def test_an_entry_is_that_of_the_words_from_it_on(self):
        words = "a b c ab ba cab abc c c b a abab cc".split(" ")
        job = with_measure(JOB, 20)
        table = table_of(job, " ".join(words))
        for at in range(len(words) + 1):
            self.assertEqual(table[at:], table_of(job, " ".join(words[at:])))

    def test_the_table_is_told_where_the_text_cannot_be_broken(self):
        table = table_of(with_measure(JOB, 9), "cccc a a a")
        self.assertEqual(table, [None, (1, 0), (1, 0), (1, 0), (0, 0)])

    def test_a_line_of_the_text_is_as_wide_as_at_the_keyboard(self):
        job = (CASE, 3, 10, 2, 150)
        broken = break_text(job, "dad cab ad bad a cafe i bi")
        for line in broken[:-1]:
            short = 150 - line_width(job, line, steps_of(job, line))
            self.assertTrue(0 <= short < 2 * line.count(" "))
        self.assertLessEqual(line_width(job, broken[-1], (0, 0)), 150)
        self.assertGreater(len(broken), 1)


if __name__ == "__main__":
    unittest.main()
