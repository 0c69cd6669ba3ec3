import copy
import random
import unittest

from ribboncast.breaking import break_text, table_of
from ribboncast.cases import is_case
from ribboncast.errors import CastError, NoLayout, NoPaper
from ribboncast.keyboard import is_job, steps_of
from ribboncast.laying import cams_in, lay_out
from ribboncast.looker import look
from ribboncast.ribbons import ribbon_of
from things import (
    ALL_STEPS, CASE, ODD_THINGS, PLAIN_CASE, AllWays, chance_lines, chance_names, put_otherwise, ribbon_by_the_document,
    told, width_by_the_document,
)

LETTERS = [("a", 5), ("b", 6), ("c", 4), ("d", 9), ("e", 10), ("f", 8), ("ff", 18), ("ffi", 17), ("i", 1)]
LAID = ("laid", (3, 4), LETTERS, CASE, 6)

# a 50 grains, b 60, ff 180; a blank from 30 to 478, by twos.
JOB = (CASE, 10, 30, 2, 200)
LINE = ("line", JOB, ["a", " ", "b"], 2, 0)

# a has 1 grain, b 2, c 3; a blank from 2 to 226.
PLAIN_JOB = (PLAIN_CASE, 1, 2, 1, 12)
BROKEN = ("broken", PLAIN_JOB, ["c", "c", "c"], [2, 1], [(2, 16), (1, 0), (1, 0), (0, 0)])

LINES = [(["a", " ", "b"], "kept"), (["a", "ff", " "], "struck"), ([], "struck"), ([], "open"), (["b"], "open")]
RIBBON = ("ribbon", JOB, LINES, ribbon_by_the_document(JOB, LINES))

PAPERS = [LAID, LINE, BROKEN, RIBBON]

# Things that are no jobs.
NO_JOBS = [None, True, 1, "", "job", [], (), list(JOB), JOB[:4], JOB + (1,), (JOB,), CASE, (CASE,),
           (CASE, 10, 30, 2, 0),
           (CASE, 10, 30, 2, True), (CASE, True, 30, 2, 200), (CASE, 1001, 30, 2, 200), (CASE, 10, 0, 2, 200),
           (CASE, 10, 30, 1001, 200), (CASE, 10, 30, 2, 1000001), (None, 10, 30, 2, 200), (list(CASE), 10, 30, 2, 200),
           (CASE, 10, 30, 2, "200"), (CASE, 10, 30, [2], 200)]


def with_part(paper, at, part):
    return paper[:at] + (part,) + paper[at + 1:]


def with_measure(job, measure):
    return job[:4] + (measure,)


def short_names(many):
    """So many names of one sign or two, all unlike."""
    letters = "abcdefghijklmnopqrstuvwxyz"
    return ([letter for letter in letters] + [first + second for first in letters for second in letters])[:many]


class Looking(unittest.TestCase):
    def held(self, paper):
        kept = copy.deepcopy(paper)
        self.assertIs(look(paper), True, paper)
        self.assertEqual(paper, kept)

    def fails(self, at, paper):
        kept = copy.deepcopy(paper)
        with self.assertRaises(NoPaper, msg=repr(paper)[:300]) as refused:
            look(paper)
        self.assertEqual(refused.exception.at, at, paper)
        self.assertIs(isinstance(refused.exception.at, int), True)
        self.assertIsInstance(refused.exception, CastError)
        self.assertEqual(paper, kept)


class First(Looking):
    def test_papers(self):
        for paper in PAPERS:
            self.held(paper)

    def test_odd_things(self):
        for thing in ODD_THINGS:
            self.fails(1, thing)

    def test_one_thing_more_or_less(self):
        for paper in PAPERS:
            for at in range(1, len(paper)):
                self.fails(1, paper[:at])
                self.fails(1, paper[:at] + paper[at + 1:])
            for more in (None, 0, 1, True, "", [], (), paper[-1], paper):
                self.fails(1, paper + (more,))
                self.fails(1, (more,) + paper)
                self.fails(1, paper[:1] + (more,) + paper[1:])

    def test_other_words(self):
        for paper in PAPERS:
            for word in ["", " ", "Laid", "laid ", "lines", "ribbons", "broke", "case", "kept", None, True, 0, ["laid"],
                         ["line"], ("broken",), ["ribbon"], [], paper[0] + "\n", paper[0].upper(), paper[0][:-1]]:
                self.fails(1, with_part(paper, 0, word))
            self.fails(1, paper[1:])
            self.fails(1, paper[1:] + paper[:1])

    def test_a_word_with_another_ones_number_of_things(self):
        self.fails(1, RIBBON + (0,))
        for paper in (LAID, LINE, BROKEN):
            self.fails(1, paper[:4])
            self.fails(1, with_part(paper, 0, "ribbon"))
        self.fails(1, with_part(RIBBON, 0, "laid"))
        self.fails(1, with_part(RIBBON, 0, "line"))
        self.fails(1, with_part(RIBBON, 0, "broken"))

    def test_lists_for_tuples(self):
        for paper in PAPERS:
            self.fails(1, list(paper))
            self.fails(1, [paper])
            self.fails(1, (paper,))

    def test_words_exchanged(self):
        self.fails(2, with_part(LAID, 0, "line"))
        self.fails(2, with_part(LAID, 0, "broken"))
        self.fails(2, with_part(LINE, 0, "laid"))
        self.fails(3, with_part(LINE, 0, "broken"))
        self.fails(2, with_part(BROKEN, 0, "laid"))
        self.fails(4, with_part(BROKEN, 0, "line"))

    def test_other_things_in_each_place(self):
        # The clause that speaks of each place, but where the odd thing may stand there.
        for paper, clauses in [(LAID, [2, 3, 4, 7]), (LINE, [2, 3, 4, 4]), (BROKEN, [2, 3, 4, 6]), (RIBBON, [2, 3, 4])]:
            for place, clause in enumerate(clauses, start=1):
                for thing in ODD_THINGS:
                    is_step = clause == 4 and paper == LINE and not isinstance(thing, bool) and thing in range(15)
                    if thing != [] and not is_step and (paper, place, thing) != (RIBBON, 3, [()]):
                        self.fails(clause, with_part(paper, place, thing))

    def test_truths_in_each_numbers_place(self):
        for paper, clauses in [(LAID, [2, 3, 4, 7]), (LINE, [2, 3, 4, 4]), (BROKEN, [2, 3, 4, 6]), (RIBBON, [2, 3, 4])]:
            for place, clause in enumerate(clauses, start=1):
                for thing in (True, False, [True], [False], (True,), (False,), [(True, False)], [[True]], [None]):
                    self.fails(clause, with_part(paper, place, thing))


class Laid(Looking):
    def test_letters_laid_out(self):
        chance = random.Random(22)
        many = 0
        for trial in range(200):
            size = (chance.randint(2, 6), chance.randint(2, 6))
            names = chance.sample(short_names(60), chance.randint(0, 20))
            letters = [(name, chance.randint(1, 9)) for name in names]
            try:
                case = lay_out(size, letters)
            except NoLayout:
                continue
            self.held(("laid", size, letters, case, cams_in(case)))
            self.held(("laid", size, letters[::-1], case, cams_in(case)))
            many += 1
        self.assertGreater(many, 50)

    def test_any_layout_holds_be_it_the_best_or_not(self):
        cells = ((("a", 1), (" ", 0)), (None, ("b", 0)))
        self.held(("laid", (2, 2), [("a", 5), ("b", 5)], ((4, 5), cells), 1))
        self.held(("laid", (2, 2), [("b", 5), ("a", 5)], ((4, 5), cells), 1))
        self.held(("laid", (2, 2), [], ((1, 1), ((None, None), (None, (" ", 0)))), 0))

    def test_the_size(self):
        for size in [None, True, 3, [3, 4], (3,), (3, 4, 4), (1, 4), (16, 4), (3, 1), (3, 16), (True, 4), (3, "4"),
                     "34", ()]:
            self.fails(2, with_part(LAID, 1, size))
            self.fails(2, ("laid", size, None, None, None))

    def test_the_letters(self):
        first = LETTERS[1:]
        for letters in [
            None, True, 3, "", "abc", (), tuple(LETTERS), [None], [()], [("a",)], [("a", 5, 0)], [["a", 5]], ["a5"],
            [5],
            first + [("a", 0)], first + [("a", 31)], first + [("a", -1)], first + [("a", True)], first + [("a", "5")],
            first + [("a", None)], first + [("a", [5])], first + [("a", (5,))], first + [("", 5)],
            first + [("abcd", 5)],
            first + [("A", 5)], first + [(" ", 5)], first + [("_", 5)], first + [("a ", 5)], first + [(None, 5)],
            first + [(5, "a")], first + [(["a"], 5)], first + [(("a",), 5)], first + [["a", 5]],
            first + [("\u00e4", 5)],
            LETTERS + [("a", 5)], LETTERS + [("a", 6)], [("a", 5), ("a", 5)],
        ]:
            self.fails(3, with_part(LAID, 2, letters))
            self.fails(3, ("laid", (3, 4), letters, None, None))

    def test_sixty_letters_and_sixty_one(self):
        letters = [(name, 30) for name in short_names(61)]
        for many in (59, 60, 61):
            cells = [(name, 0) for name, width in letters[:many]] + [(" ", 0)]
            cells += [None] * (64 - len(cells))
            case = ((30,) * 8, tuple([tuple(cells[8 * row:8 * row + 8]) for row in range(8)]))
            self.assertIs(is_case(case), True)
            paper = ("laid", (8, 8), letters[:many], case, 0)
            if many <= 60:
                self.held(paper)
            else:
                self.fails(3, paper)

    def test_widths_from_one_to_thirty(self):
        cells = ((("a", 0), (" ", 0)), (("b", 1), None))
        for width in range(1, 31):
            self.held(("laid", (2, 2), [("a", width), ("b", 30)], ((width, 29), cells), 1))
        # A letter of 31 is none of 10, though a cell may give it that width.
        self.fails(3, ("laid", (2, 2), [("a", 5), ("b", 31)], ((5, 30), cells), 1))

    def test_the_case(self):
        units, cells = CASE
        for case in [None, True, 1, "", (), [], list(CASE), (units,), (units, cells, 0), (list(units), cells),
                     (units, list(cells)),
                     (units[:3], cells), (units[:3], cells[:3]), ((0,) + units[1:], cells),
                     ((True,) + units[1:], cells),
                     (units, ((("a", 0), ("a", 0), None),) + cells[1:]), PLAIN_CASE, (units, tuple(zip(*cells)))]:
            self.fails(4, with_part(LAID, 3, case))
            self.fails(4, with_part(with_part(LAID, 3, case), 4, None))

    def test_a_case_of_another_size(self):
        for size in [(2, 4), (3, 3), (4, 4), (3, 5), (4, 3), (15, 15)]:
            self.fails(4, with_part(LAID, 1, size))
        self.fails(4, ("laid", (2, 3), LETTERS, PLAIN_CASE, 0))

    def test_the_names(self):
        for letters in [LETTERS[1:], LETTERS[:-1], LETTERS + [("z", 5)], [("z", 5)] + LETTERS[1:], [],
                        LETTERS[:5] + LETTERS[6:]]:
            self.fails(5, with_part(LAID, 2, letters))
            self.fails(5, with_part(with_part(LAID, 2, letters), 4, None))
        self.fails(5, with_part(LAID, 2, [("z", 30)] + [(name, 30) for name, width in LETTERS[1:]]))

    def test_the_widths(self):
        for at, (name, width) in enumerate(LETTERS):
            for other in (width - 1, width + 1, 30):
                if 1 <= other <= 30:
                    letters = LETTERS[:at] + [(name, other)] + LETTERS[at + 1:]
                    self.fails(6, with_part(LAID, 2, letters))
                    self.fails(6, with_part(with_part(LAID, 2, letters), 4, None))

    def test_the_cams(self):
        for cams in [None, True, False, 0, 1, 5, 7, -6, 12, "6", "", [6], (6,), [], (), 999999999999]:
            self.fails(7, with_part(LAID, 4, cams))
        # One cam and none: a truth would be equal to them.
        cells = ((("a", 1), (" ", 0)), (None, ("b", 0)))
        self.fails(7, ("laid", (2, 2), [("a", 5), ("b", 5)], ((4, 5), cells), True))
        self.fails(7, ("laid", (2, 2), [], ((1, 1), ((None, None), (None, (" ", 0)))), False))

    def test_letters_in_any_order(self):
        chance = random.Random(221)
        for trial in range(20):
            letters = list(LETTERS)
            chance.shuffle(letters)
            self.held(with_part(LAID, 2, letters))


class Line(Looking):
    def clause_by_the_document(self, job, names, steps):
        short = job[4] - width_by_the_document(job, names, steps)
        blanks = names.count(" ")
        if short < 0:
            return 5
        if blanks == 0 and short != 0 or blanks > 0 and short >= job[3] * blanks:
            return 6
        return 7 if blanks == 0 and steps != (0, 0) else None

    def test_the_job(self):
        for job in NO_JOBS:
            self.assertIs(is_job(job), False)
            self.fails(2, with_part(LINE, 1, job))
            self.fails(2, ("line", job, None, None, None))

    def test_the_names(self):
        for names in [None, True, 1, "", "a", "a b", (), ("a", " ", "b"), ["a", " ", "x"], ["a", "  ", "b"],
                      ["a", "", "b"],
                      ["A", " ", "b"], ["a", " ", None], ["a", " ", 1], ["a", " ", True], ["a", " ", ["b"]],
                      ["a", " ", ("b",)],
                      ["a b"], [["a"], " ", "b"], ["aa"], [("a", 0), " ", "b"], ["a", "_", "b"], ["a", " ", "b\n"],
                      [[]], [()]]:
            self.fails(3, with_part(LINE, 2, names))
            self.fails(3, ("line", JOB, names, None, None))

    def test_sixty_names_and_sixty_one(self):
        job = with_measure(JOB, 3000)
        self.held(("line", job, ["a"] * 60, 0, 0))
        self.fails(3, ("line", with_measure(JOB, 3050), ["a"] * 61, 0, 0))
        self.fails(3, ("line", job, ["a"] * 61, 0, 0))
        self.held(("line", with_measure(JOB, 59 * 50 + 30), ["a"] * 59 + [" "], 0, 0))
        self.fails(3, ("line", with_measure(JOB, 60 * 50 + 30), ["a"] * 60 + [" "], 0, 0))

    def test_twelve_blanks_and_thirteen(self):
        self.held(("line", with_measure(JOB, 360), [" "] * 12, 0, 0))
        self.fails(3, ("line", with_measure(JOB, 390), [" "] * 13, 0, 0))
        self.held(("line", with_measure(JOB, 410), ["a"] + [" "] * 12, 0, 0))
        self.fails(3, ("line", with_measure(JOB, 440), ["a"] + [" "] * 13, 0, 0))

    def test_the_steps(self):
        for step in [None, True, False, -1, 15, 16, 999999999999, "0", "", [0], (0,), [], ()]:
            self.fails(4, with_part(LINE, 3, step))
            self.fails(4, with_part(LINE, 4, step))
            self.fails(4, ("line", with_measure(JOB, 1), ["a", " ", "b"], step, 0))
            self.fails(4, ("line", with_measure(JOB, 1), ["a"], 0, step))

    def test_the_steps_come_at_their_bounds(self):
        self.held(("line", with_measure(JOB, 588), ["a", " ", "b"], 14, 14))
        self.held(("line", with_measure(JOB, 140), ["a", " ", "b"], 0, 0))
        self.fails(4, ("line", with_measure(JOB, 590), ["a", " ", "b"], 14, 15))
        self.fails(4, ("line", with_measure(JOB, 590), ["a", " ", "b"], 15, 0))

    def test_the_width(self):
        for measure, at in [(1, 5), (199, 5), (200, None), (201, None), (202, 6), (203, 6), (1000000, 6)]:
            paper = ("line", with_measure(JOB, measure), ["a", " ", "b"], 2, 0)
            if at is None:
                self.held(paper)
            else:
                self.fails(at, paper)

    def test_a_line_without_blanks(self):
        names = ["a", "b"]
        for measure, at in [(109, 5), (110, None), (111, 6), (112, 6)]:
            for steps in [(0, 0), (0, 1), (1, 0), (14, 14)]:
                paper = ("line", with_measure(JOB, measure), names) + steps
                clause = at or (None if steps == (0, 0) else 7)
                if clause is None:
                    self.held(paper)
                else:
                    self.fails(clause, paper)
        self.fails(6, ("line", with_measure(JOB, 1), [], 0, 0))

    def test_each_pair_of_steps(self):
        for names, measure in [
            (["a", " ", "b"], 140), (["a", " ", "b"], 200), (["a", " ", "b"], 588), (["a", " ", "b"], 600),
            (["a", " ", " ", " "], 203), (["a"], 50), (["a"], 51), ([" "], 30), ([], 7), ([" "] * 12, 1111),
        ]:
            job = with_measure(JOB, measure)
            for steps in ALL_STEPS:
                clause = self.clause_by_the_document(job, names, steps)
                due = True if clause is None else ("NoPaper", clause)
                self.assertEqual(told(look, ("line", job, names) + steps), due)

    def test_lines_with_their_steps(self):
        chance = random.Random(222)
        many = 0
        for trial in range(400):
            case = chance.choice([CASE, PLAIN_CASE])
            job = (case, chance.randint(1, 9), chance.randint(1, 30), chance.randint(1, 4), chance.randint(1, 500))
            names = chance_names(chance, case, 12)
            steps = told(steps_of, job, names)
            if isinstance(steps[0], str):
                for steps in chance.sample(ALL_STEPS, 5):
                    clause = self.clause_by_the_document(job, names, steps)
                    self.fails(clause, ("line", job, names) + steps)
            else:
                self.held(("line", job, names) + steps)
                many += 1
        self.assertGreater(many, 100)


class Broken(Looking):
    def test_the_job(self):
        for job in NO_JOBS:
            self.fails(2, with_part(BROKEN, 1, job))
            self.fails(2, ("broken", job, None, None, None))

    def test_the_words(self):
        for words in [None, True, 1, "", "c c c", (), ("c", "c", "c"), ["c", "c", ""], [""], ["c", "c", " "],
                      ["c", "c", "c c"],
                      ["c", "c", "x"], ["c", "c", "C"], ["c", "c", "cx"], ["c", "c", "c\n"], ["c", "c", None],
                      ["c", "c", 3],
                      ["c", "c", True], ["c", "c", ["c"]], ["c", "c", ("c",)], [["c"], ["c"], ["c"]],
                      ["c", "c", "\u00e4"],
                      ["c", "c", "c1"], ["c", "c", "_"], [[]], [()]]:
            self.fails(3, with_part(BROKEN, 2, words))
            self.fails(3, ("broken", PLAIN_JOB, words, None, None))

    def test_forty_words_and_forty_one(self):
        job = with_measure(PLAIN_JOB, 1)
        for many in (39, 40, 41):
            paper = ("broken", job, ["a"] * many, [1] * many, [(many - at, 0) for at in range(many)] + [(0, 0)])
            if many <= 40:
                self.held(paper)
            else:
                self.fails(3, paper)

    def test_the_lines(self):
        for lengths in [None, True, 3, "", "21", (), (2, 1), [], [3, 1], [1, 1], [2], [1], [2, 2], [2, 1, 1], [0, 3],
                        [3, 0], [2, 0, 1],
                        [-1, 4], [4, -1], [2, True], [True, 2], [True, True, True], [2, None], [2, "1"], [2, [1]],
                        [2, (1,)],
                        [[2, 1]], [2, False, 1], [999999999999], [3, False], [["c", "c"], ["c"]]]:
            self.fails(4, with_part(BROKEN, 3, lengths))
            self.fails(4, with_part(with_part(BROKEN, 3, lengths), 4, None))

    def test_each_line_is_one(self):
        # c has 3 grains, c c 8, c c c 13, and the measure is 12.
        for lengths in [[3], [1, 2], [1, 1, 1]]:
            self.fails(5, with_part(BROKEN, 3, lengths))
            self.fails(5, with_part(with_part(BROKEN, 3, lengths), 4, None))
        table = table_of(PLAIN_JOB, "c c a b")
        self.held(("broken", PLAIN_JOB, ["c", "c", "a", "b"], [3, 1], table))
        # Lines as in 15 they are, but not with the least waste.
        self.fails(8, ("broken", PLAIN_JOB, ["c", "c", "a", "b"], [2, 2], table))

    def test_sixty_names_and_sixty_one_in_a_line(self):
        job = with_measure(PLAIN_JOB, 1000)
        self.held(("broken", job, ["a" * 58, "a"], [2], [(1, 0), (1, 0), (0, 0)]))
        self.fails(5, ("broken", job, ["a" * 59, "a"], [2], [None, (1, 0), (0, 0)]))
        self.fails(5, ("broken", job, ["a" * 61], [1], [None, (0, 0)]))

    def test_twelve_blanks_and_thirteen_in_a_line(self):
        job = with_measure(PLAIN_JOB, 100)
        for many, lengths, at in [
            (13, [13], None), (14, [14], 5), (14, [13, 1], None), (14, [12, 2], 8), (15, [14, 1], 5),
        ]:
            words = ["a"] * many
            paper = ("broken", job, words, lengths, table_of(job, " ".join(words)))
            if at is None:
                self.held(paper)
            else:
                self.fails(at, paper)

    def test_the_form_of_the_table(self):
        rest = [(1, 0), (1, 0), (0, 0)]
        for table in [None, True, 0, "", (), [], tuple(BROKEN[4]), BROKEN[4][1:], BROKEN[4][:-1], BROKEN[4] + [(0, 0)],
                      [(3, 16)] + BROKEN[4], [(2, True)] + rest, [(True, 16)] + rest, [(2, None)] + rest,
                      [(2, "16")] + rest,
                      [(2,)] + rest, [(2, 16, 0)] + rest, [()] + rest, [[2, 16]] + rest, [2] + rest, [""] + rest,
                      [True] + rest,
                      [[2, 16]] + rest, [([2], 16)] + rest, [False] + rest, BROKEN[4][:-1] + [None],
                      BROKEN[4][:-1] + [(0, 1)],
                      BROKEN[4][:-1] + [(1, 0)], BROKEN[4][:-1] + [(False, 0)], BROKEN[4][:-1] + [(0, False)],
                      BROKEN[4][:-1] + [[0, 0]], BROKEN[4][:-1] + [()], [(2, 16), (1, False), (1, 0), (0, 0)],
                      [(2, 16), (True, 0), (1, 0), (0, 0)]]:
            self.fails(6, with_part(BROKEN, 4, table))

    def test_the_entries_of_the_table(self):
        for at in range(3):
            for entry in [None, (0, 0), (1, 1), (2, 0), (2, 15), (2, 17), (3, 16), (1, 16), (-1, 0), (2, -16), (1, -1)]:
                self.fails(7, with_part(BROKEN, 4, BROKEN[4][:at] + [entry] + BROKEN[4][at + 1:]))
        # Where nothing can be broken None stands, and any numbers are wrong.
        table = [None, (2, 0), None, (1, 0), (0, 0)]
        job = with_measure(PLAIN_JOB, 4)
        self.fails(5, ("broken", job, ["c", "a", "a", "c"], [1, 2, 1], table))
        words = ["a", "a", "c"]
        self.held(("broken", job, words, [2, 1], table[1:]))
        self.fails(7, ("broken", job, words, [2, 1], [(2, 0), (2, 0), (1, 0), (0, 0)]))
        self.fails(7, ("broken", job, words, [2, 1], [(2, 0), (0, 0), (1, 0), (0, 0)]))

    def test_lines_that_do_not_come_to_the_first_entry(self):
        chance = random.Random(223)
        seen = {}
        for trial in range(300):
            job = (PLAIN_CASE, 1, chance.randint(1, 3), chance.randint(1, 3), chance.randint(6, 16))
            words = [chance.choice(["a", "b", "c", "ab"]) for word in range(chance.randint(1, 6))]
            ways = AllWays(job, " ".join(words))
            table = ways.table()
            for lines, waste, lengths in ways.ways_from(0):
                paper = ("broken", job, words, list(lengths), table)
                if (lines, waste) == table[0]:
                    self.held(paper)
                elif lines == table[0][0]:
                    self.fails(8, paper)
                    seen["waste"] = True
                else:
                    self.fails(8, paper)
                    seen["lines"] = True
        self.assertEqual(sorted(seen), ["lines", "waste"])

    def test_lines_and_entries_by_chance(self):
        chance = random.Random(224)
        seen = {}
        for trial in range(1500):
            job = (PLAIN_CASE, 1, chance.randint(1, 3), chance.randint(1, 3), chance.randint(6, 20))
            words = [chance.choice(["a", "b", "c", "ab"]) for word in range(chance.randint(0, 5))]
            ways = AllWays(job, " ".join(words))
            table = ways.table()
            lengths = []
            while sum(lengths) < len(words):
                lengths.append(chance.randint(1, len(words) - sum(lengths)))
            told_table = list(table)
            if words and chance.random() < 0.3:
                told_table[chance.randrange(len(words))] = chance.choice([None, (1, 0), (2, 0), (2, 1), (1, 1)])
            ends = [sum(lengths[:at + 1]) for at in range(len(lengths))]
            wastes = [ways.waste_of_line(end - many, end) for many, end in zip(lengths, ends)]
            clause = None
            if None in wastes:
                clause = 5
            elif told_table != table:
                clause = 7
            elif (len(lengths), sum(wastes)) != table[0]:
                clause = 8
            due = True if clause is None else ("NoPaper", clause)
            self.assertEqual(told(look, ("broken", job, words, lengths, told_table)), due)
            seen[clause] = seen.get(clause, 0) + 1
        self.assertEqual(len(seen), 4)
        self.assertGreater(min(seen.values()), 20)

    def test_no_words(self):
        self.held(("broken", PLAIN_JOB, [], [], [(0, 0)]))
        self.fails(4, ("broken", PLAIN_JOB, [], [1], [(0, 0)]))
        self.fails(4, ("broken", PLAIN_JOB, [], [0], [(0, 0)]))
        self.fails(6, ("broken", PLAIN_JOB, [], [], []))
        self.fails(6, ("broken", PLAIN_JOB, [], [], [(0, 0), (0, 0)]))
        self.fails(6, ("broken", PLAIN_JOB, [], [], [None]))

    def test_a_text_that_cannot_be_broken_has_no_paper(self):
        job = with_measure(PLAIN_JOB, 4)
        for lengths in [[4], [1, 3], [2, 2], [3, 1], [1, 1, 2], [1, 2, 1], [2, 1, 1], [1, 1, 1, 1]]:
            self.fails(5, ("broken", job, ["c", "a", "a", "c"], lengths, [None, (2, 0), None, (1, 0), (0, 0)]))

    def test_broken_texts(self):
        chance = random.Random(225)
        many = 0
        for trial in range(100):
            job = (CASE, chance.randint(1, 3), chance.randint(1, 20), chance.randint(1, 3), chance.randint(60, 200))
            words = [chance.choice(["a", "cab", "face", "ffi", "idea", "fab"]) for word in range(chance.randint(0, 40))]
            text = " ".join(words)
            broken = told(break_text, job, text)
            if isinstance(broken, list):
                lengths = [line.count(" ") + 1 for line in broken]
                self.held(("broken", job, words, lengths, table_of(job, text)))
                many += 1
        self.assertGreater(many, 30)


class RibbonPapers(Looking):
    def test_the_job(self):
        for job in NO_JOBS:
            self.fails(2, with_part(RIBBON, 1, job))
            self.fails(2, ("ribbon", job, None, None))

    def test_the_lines(self):
        fair = (["a"], "open")
        for line in [None, True, 1, "", "a", [], (), ["a"], [["a"], "open"], (["a"],), (["a"], "open", 0),
                     ("open", ["a"]),
                     (("a",), "open"), ("a", "open"), (None, "open"), (["x"], "open"), (["x"], "struck"),
                     (["a", None], "struck"),
                     (["a", ["b"]], "struck"), (["a", 1], "struck"), (["aa"], "struck"), (["a"], "Open"),
                     (["a"], "keep"),
                     (["a"], ""), (["a"], None), (["a"], True), (["a"], ["open"]), (["a"], ("open",)),
                     (["a"], "strike"),
                     (["a"] * 61, "struck"), ([" "] * 13, "struck"), (["a"] * 48 + [" "] * 13, "struck")]:
            self.fails(3, with_part(RIBBON, 2, [line]))
            self.fails(3, with_part(RIBBON, 2, [fair, line]))
            self.fails(3, with_part(RIBBON, 2, [line, fair]))
            self.fails(3, ("ribbon", JOB, [line], None))
        for lines in [None, True, 1, "", (), (fair,), tuple(LINES), "open"]:
            self.fails(3, with_part(RIBBON, 2, lines))

    def test_the_most_names_and_blanks(self):
        for line in [(["a"] * 60, "struck"), (["a"] * 48 + [" "] * 12, "struck"), ([" "] * 12, "struck")]:
            self.held(("ribbon", JOB, [line], ribbon_by_the_document(JOB, [line])))

    def test_sixty_lines_and_sixty_one(self):
        for line in [([], "struck"), (["a"], "open"), (["a", " ", "b"], "kept")]:
            for many in (0, 1, 59, 60, 61):
                rows = ribbon_by_the_document(JOB, [line]) * many
                paper = ("ribbon", JOB, [line] * many, rows)
                if many <= 60:
                    self.held(paper)
                else:
                    self.fails(3, paper)

    def test_the_ribbon(self):
        rows = RIBBON[3]
        for ribbon in [None, True, 1, "", "-", (), tuple(rows), [None], [True], [0], [""], [[]], rows + [[]],
                       rows + [None],
                       [list(row) for row in rows], rows[:-1] + [list(rows[-1])], rows + [(31,)], rows + [(-1,)],
                       rows + [(1, 0)],
                       rows + [(1, 1)], rows + [(True,)], rows + [(False, 14)], rows + [("0",)], rows + [(None,)],
                       rows + [((),)],
                       rows + ["0.14"], rows + [0], [rows]]:
            self.fails(4, with_part(RIBBON, 3, ribbon))
            self.fails(4, ("ribbon", JOB, [(["ff"] * 9, "kept")], ribbon))

    def test_a_truth_in_a_row(self):
        # The row of a is (0, 14); False is equal to 0.
        rows = ribbon_by_the_document(JOB, [(["a"], "open")])
        self.held(("ribbon", JOB, [(["a"], "open")], rows))
        self.fails(4, ("ribbon", JOB, [(["a"], "open")], [(False, 14)] + rows[1:]))

    def test_rows_that_are_not_the_lines(self):
        rows = RIBBON[3]
        for ribbon in [[], rows[1:], rows[:-1], rows + [()], rows + [(28, 29, 30)], rows[::-1],
                       rows[1:2] + rows[:1] + rows[2:],
                       [(0, 1, 2, 3)] + rows[1:], rows + rows]:
            self.fails(5, with_part(RIBBON, 3, ribbon))
        for at in range(len(rows)):
            self.fails(5, with_part(RIBBON, 3, rows[:at] + [(0, 3, 5)] + rows[at + 1:]))
        self.fails(5, with_part(RIBBON, 2, []))
        self.fails(5, with_part(RIBBON, 2, LINES[::-1]))
        self.held(("ribbon", JOB, [], []))

    def test_lines_that_are_refused(self):
        for line in [(["ff"] * 9, "kept"), (["ff"] * 9, "open"), (["a"], "kept"), ([], "kept")]:
            for ribbon in [[], [(14, 28, 29), (14, 28, 30)], ribbon_by_the_document(JOB, [(line[0], "struck")])]:
                self.fails(5, ("ribbon", JOB, [line], ribbon))

    def test_four_hundred_rows_and_one_more(self):
        line = (["a"] * 49, "struck")
        rows = ribbon_by_the_document(JOB, [line])
        self.held(("ribbon", JOB, [line] * 8, rows * 8))
        self.fails(5, ("ribbon", JOB, [line] * 8 + [([], "struck")], rows * 8 + [(28, 29, 30)]))
        self.fails(5, ("ribbon", JOB, [line] * 60, rows * 60))

    def test_the_way_tells(self):
        rows = ribbon_by_the_document(JOB, [(["a"], "open")])
        self.fails(5, ("ribbon", JOB, [(["a"], "struck")], rows))
        self.fails(5, ("ribbon", JOB, [(["a"], "kept")], rows))
        self.held(("ribbon", with_measure(JOB, 50), [(["a"], "kept")], rows))
        self.held(("ribbon", with_measure(JOB, 50), [(["a"], "open")], rows))

    def test_ribbons_by_chance(self):
        chance = random.Random(226)
        seen = {}
        for trial in range(400):
            case = chance.choice([CASE, PLAIN_CASE])
            job = (case, 1, chance.randint(1, 9), chance.randint(1, 3), chance.randint(15, 90))
            lines = chance_lines(chance, job, 9)
            ribbon = ribbon_of(job, lines)
            self.held(("ribbon", job, lines, ribbon))
            otherwise = put_otherwise(chance, (len(case[1][0]), len(case[0])), ribbon)
            due = True if otherwise == ribbon else ("NoPaper", 5)
            self.assertEqual(told(look, ("ribbon", job, lines, otherwise)), due)
            more = lines + [(chance_names(chance, case, 9), chance.choice(["kept", "open", "struck"]))]
            self.fails(5, ("ribbon", job, more, ribbon))
            rows = ribbon_by_the_document(job, more)
            seen[rows[0] if isinstance(rows, tuple) else "ribbon"] = True
            if isinstance(rows, list):
                self.held(("ribbon", job, more, rows))
        self.assertEqual(len(seen), 3)


if __name__ == "__main__":
    unittest.main()
