"""Point 3: what holds over all modules together."""

import random
import unittest

from ribboncast.breaking import break_text, table_of
from ribboncast.cases import names_in, place_of, units_of
from ribboncast.caster import cast_ribbon, pull_of
from ribboncast.desk import Desk
from ribboncast.errors import NoLines, NoPaper
from ribboncast.keyboard import steps_of
from ribboncast.laying import cams_in, lay_out
from ribboncast.looker import look
from ribboncast.mending import cast_anew, line_ranges, mend_ribbon
from ribboncast.notes import case_read, case_shown, galley_shown, ribbon_read, ribbon_shown
from ribboncast.ribbons import ribbon_of, rows_of
from ribboncast.sorting import sort_back
from things import CASE, PLAIN_CASE, chance_lines, rows_by_the_document

LETTERS = [("a", 3), ("b", 4), ("c", 7), ("ca", 9), ("bb", 9)]
WORDS = ["a", "b", "c", "ab", "cab", "abc", "bac", "cc", "aabb", "cabcab"]


def chance_text(chance, most):
    return " ".join([chance.choice(WORDS) for word in range(chance.randint(0, most))])


def with_struck(chance, lines):
    """The same lines with some struck ones between."""
    more = list(lines)
    for line in range(chance.randint(1, 4)):
        more.insert(chance.randint(0, len(more)), (["a", " ", "c"] * chance.randint(0, 4), "struck"))
    return more


def broken_by_chance(chance):
    """A job, a text and its lines, each kept but the last one, which is open."""
    while True:
        case = chance.choice([CASE, PLAIN_CASE, lay_out((3, 3), LETTERS)])
        job = (case, chance.randint(1, 4), chance.randint(1, 20), chance.randint(1, 4), chance.randint(40, 300))
        text = chance_text(chance, 40)
        try:
            broken = break_text(job, text)
        except NoLines:
            continue
        return job, text, [(names, "kept") for names in broken[:-1]] + [(names, "open") for names in broken[-1:]]


class Whole(unittest.TestCase):
    def test_each_kept_line_comes_to_the_measure(self):
        chance = random.Random(31)
        many = 0
        for trial in range(150):
            job, text, lines = broken_by_chance(chance)
            case, grains, least, fine, measure = job
            galley = cast_ribbon(job, ribbon_of(job, lines))
            self.assertEqual(len(galley), len(lines))
            for (names, way), line in zip(lines, galley[::-1]):
                short = measure - sum([width for name, width in line])
                blanks = [width for name, width in line if name == " "]
                self.assertGreaterEqual(short, 0)
                self.assertTrue(all([least <= width <= least + 224 * fine for width in blanks]))
                self.assertLessEqual(len(set(blanks)), 1)
                if way == "kept":
                    self.assertTrue(short < fine * len(blanks) or short == 0)
                    many += 1
                else:
                    self.assertTrue(all([width == least for width in blanks]))
        self.assertGreater(many, 150)

    def test_the_pull_is_the_text(self):
        chance = random.Random(32)
        for trial in range(150):
            job, text, lines = broken_by_chance(chance)
            pull = pull_of(cast_ribbon(job, ribbon_of(job, lines)))
            self.assertEqual(" ".join(pull), text)

    def test_struck_lines_leave_the_pull_as_it_is(self):
        chance = random.Random(33)
        for trial in range(100):
            job, text, lines = broken_by_chance(chance)
            struck = with_struck(chance, lines)
            self.assertEqual(" ".join(pull_of(cast_ribbon(job, ribbon_of(job, struck)))), text)
            self.assertEqual(cast_ribbon(job, ribbon_of(job, struck)), cast_ribbon(job, ribbon_of(job, lines)))

    def test_a_ribbon_mended_in_one_line_casts_all_others_as_they_were(self):
        chance = random.Random(34)
        many = 0
        for trial in range(200):
            job = (CASE, 1, chance.randint(1, 9), chance.randint(1, 3), chance.randint(20, 90))
            lines = chance_lines(chance, job, 10)
            fresh = chance_lines(chance, job, 10)
            if not lines or not fresh:
                continue
            ribbon = ribbon_of(job, lines)
            k = chance.randrange(len(lines))
            mended = mend_ribbon(job, ribbon, k, fresh[0])
            self.assertEqual(mended, ribbon_of(job, lines[:k] + [fresh[0]] + lines[k + 1:]))
            for number in range(len(lines)):
                source = rows_of(job, fresh[0]) if number == k else rows_by_the_document(job, lines[number])
                self.assertEqual(cast_anew(job, mended, [number]), cast_ribbon(job, source))
            many += 1
        self.assertGreater(many, 100)

    def test_all_lines_cast_anew_are_the_galley(self):
        chance = random.Random(35)
        for trial in range(100):
            job, text, lines = broken_by_chance(chance)
            ribbon = ribbon_of(job, lines)
            numbers = list(range(len(line_ranges(job, ribbon))))
            self.assertEqual(len(numbers), len(lines))
            self.assertEqual(cast_anew(job, ribbon, numbers), cast_ribbon(job, ribbon))

    def test_what_goes_back_is_what_was_cast(self):
        chance = random.Random(36)
        for trial in range(100):
            job, text, lines = broken_by_chance(chance)
            galley = cast_ribbon(job, ribbon_of(job, with_struck(chance, lines)))
            names = [name for line in galley for name, width in line]
            back = {(column, row): many for column, row, many in sort_back(job[0], galley)}
            self.assertEqual(sum(back.values()), len(names))
            for name in names_in(job[0]) + [" "]:
                self.assertEqual(back.get(place_of(job[0], name), 0), names.count(name))
            # Each of the text's signs goes back, but the blanks that the lines were broken at.
            blanks = text.count(" ") - max(len(lines) - 1, 0)
            self.assertEqual(back.get(place_of(job[0], " "), 0), blanks)
            signs = [len(name) * back.get(place_of(job[0], name), 0) for name in names_in(job[0])]
            self.assertEqual(sum(signs), len(text.replace(" ", "")))

    def test_a_desk_comes_to_the_same(self):
        chance = random.Random(37)
        for trial in range(60):
            job, text, lines = broken_by_chance(chance)
            desk = Desk()
            desk.say("case " + case_shown(job[0]))
            desk.say("job " + " ".join([str(number) for number in job[1:]]))
            desk.say("strike cab")
            desk.say(("text " + text).rstrip(" "))
            desk.say("strike a a")
            lines = [(["ca", "b"] if "ca" in names_in(job[0]) else ["c", "a", "b"], "struck")] + lines
            lines += [(["a", " ", "a"], "struck")]
            ribbon = ribbon_of(job, lines)
            galley = cast_ribbon(job, ribbon)
            self.assertEqual(case_read(desk.say("case")), job[0])
            self.assertEqual(ribbon_read(desk.say("ribbon")), ribbon)
            self.assertEqual(desk.say("ribbon"), ribbon_shown(ribbon))
            self.assertEqual(desk.say("cast"), galley_shown(galley))
            back = [",".join([str(number) for number in cell]) for cell in sort_back(job[0], galley)]
            self.assertEqual(desk.say("back"), " ".join(back) or "none")
            pull = desk.say("pull")
            self.assertEqual(pull.replace("/", " ") if text else pull, text or "none")
            self.assertEqual([desk.say("undo"), desk.say("undo")][1], f"1 {len(lines[0][0]) + 1}")
            self.assertEqual([desk.say("redo"), desk.say("redo")][1], f"{len(lines)} {len(ribbon)}")
            self.assertEqual(desk.say("pull"), pull)

    def test_papers_of_all_that_was_told_are_let_by(self):
        chance = random.Random(38)
        case = lay_out((3, 3), LETTERS)
        self.assertIs(look(("laid", (3, 3), LETTERS, case, cams_in(case))), True)
        for trial in range(100):
            job, text, lines = broken_by_chance(chance)
            words = text.split(" ") if text else []
            lengths = [names.count(" ") + 1 for names, way in lines]
            self.assertIs(look(("broken", job, words, lengths, table_of(job, text))), True)
            for names, way in lines[:-1]:
                self.assertIs(look(("line", job, names) + steps_of(job, names)), True)
            lines = with_struck(chance, lines)
            ribbon = ribbon_of(job, lines)
            self.assertIs(look(("ribbon", job, lines, ribbon)), True)
            self.assertIs(look(("ribbon", job, lines, ribbon_read(ribbon_shown(ribbon)))), True)
            letters = [(name, units_of(job[0], name)) for name in names_in(job[0])]
            size = (len(job[0][1][0]), len(job[0][0]))
            self.assertIs(look(("laid", size, letters, case_read(case_shown(job[0])), cams_in(job[0]))), True)
            with self.assertRaises(NoPaper):
                look(("ribbon", job, lines, ribbon + [()]))


if __name__ == "__main__":
    unittest.main()
