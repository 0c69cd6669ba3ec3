"""Point 3: what holds over all modules together."""

import random
import unittest

from ribboncast.breaking import break_text
from ribboncast.caster import cast_ribbon, pull_of
from ribboncast.errors import NoLines
from ribboncast.laying import lay_out
from ribboncast.mending import cast_anew, line_ranges, mend_ribbon
from ribboncast.ribbons import ribbon_of, rows_of
from things import CASE, PLAIN_CASE, chance_lines, rows_by_the_document

WORDS = ["a", "b", "c", "ab", "cab", "abc", "bac", "cc", "aabb", "cabcab"]


def chance_text(chance, most):
    return " ".join([chance.choice(WORDS) for word in range(chance.randint(0, most))])


def broken_by_chance(chance):
    """A job, a text and its lines, each kept but the last one, which is open."""
    while True:
        case = chance.choice([CASE, PLAIN_CASE, lay_out((3, 3), [("a", 3), ("b", 4), ("c", 7), ("ca", 9), ("bb", 9)])])
        job = (case, chance.randint(1, 4), chance.randint(1, 20), chance.randint(1, 4), chance.randint(40, 300))
        text = chance_text(chance, 40)
        try:
            broken = break_text(job, text)
        except NoLines:
            continue
        return job, text, [(names, "kept") for names in broken[:-1]] + [(names, "open") for names in broken[-1:]]


class Whole(unittest.TestCase):
    def test_each_kept_line_comes_to_the_measure(self):
        chance = random.Random(31)
        many = 0
        for trial in range(150):
            job, text, lines = broken_by_chance(chance)
            case, grains, least, fine, measure = job
            galley = cast_ribbon(job, ribbon_of(job, lines))
            self.assertEqual(len(galley), len(lines))
            for (names, way), line in zip(lines, galley[::-1]):
                short = measure - sum([width for name, width in line])
                blanks = [width for name, width in line if name == " "]
                self.assertGreaterEqual(short, 0)
                self.assertTrue(all([least <= width <= least + 224 * fine for width in blanks]))
                self.assertLessEqual(len(set(blanks)), 1)
                if way == "kept":
                    self.assertTrue(short < fine * len(blanks) or short == 0)
                    many += 1
                else:
                    self.assertTrue(all([width == least for width in blanks]))
        self.assertGreater(many, 150)

    def test_the_pull_is_the_text(self):
        chance = random.Random(32)
        for trial in range(150):
            job, text, lines = broken_by_chance(chance)
            pull = pull_of(cast_ribbon(job, ribbon_of(job, lines)))
            self.assertEqual(" ".join(pull), text)

    def test_struck_lines_leave_the_pull_as_it_is(self):
        chance = random.Random(33)
        for trial in range(100):
            job, text, lines = broken_by_chance(chance)
            struck = list(lines)
            for line in range(chance.randint(1, 4)):
                struck.insert(chance.randint(0, len(struck)), (["a", " ", "c"] * chance.randint(0, 4), "struck"))
            self.assertEqual(" ".join(pull_of(cast_ribbon(job, ribbon_of(job, struck)))), text)
            self.assertEqual(cast_ribbon(job, ribbon_of(job, struck)), cast_ribbon(job, ribbon_of(job, lines)))

    def test_a_ribbon_mended_in_one_line_casts_all_others_as_they_were(self):
        chance = random.Random(34)
        many = 0
        for trial in range(200):
            job = (CASE, 1, chance.randint(1, 9), chance.randint(1, 3), chance.randint(20, 90))
            lines = chance_lines(chance, job, 10)
            fresh = chance_lines(chance, job, 10)
            if not lines or not fresh:
                continue
            ribbon = ribbon_of(job, lines)
            k = chance.randrange(len(lines))
            mended = mend_ribbon(job, ribbon, k, fresh[0])
            self.assertEqual(mended, ribbon_of(job, lines[:k] + [fresh[0]] + lines[k + 1:]))
            for number in range(len(lines)):
                source = rows_of(job, fresh[0]) if number == k else rows_by_the_document(job, lines[number])
                self.assertEqual(cast_anew(job, mended, [number]), cast_ribbon(job, source))
            many += 1
        self.assertGreater(many, 100)

    def test_all_lines_cast_anew_are_the_galley(self):
        chance = random.Random(35)
        for trial in range(100):
            job, text, lines = broken_by_chance(chance)
            ribbon = ribbon_of(job, lines)
            numbers = list(range(len(line_ranges(job, ribbon))))
            self.assertEqual(len(numbers), len(lines))
            self.assertEqual(cast_anew(job, ribbon, numbers), cast_ribbon(job, ribbon))


if __name__ == "__main__":
    unittest.main()
