import copy
import random
import unittest

from ribboncast.cases import is_case
from ribboncast.caster import cast_ribbon
from ribboncast.errors import CastError, NoText
from ribboncast.laying import lay_out
from ribboncast.notes import case_read, case_shown, galley_shown, ribbon_read, ribbon_shown
from ribboncast.ribbons import ribbon_of
from things import CASE, ODD_THINGS, PLAIN_CASE, chance_lines

CASE_TEXT = "5 a b+ c-/9 d e+ f-/18 ff - ffi-/2 - _ i-"
PLAIN_TEXT = "1 a _/2 b -/3 c -/4 abc -"
FIRST_CASE = ((1, 1), ((("a", 0), (" ", 0)), (None, None)))

RIBBONS = [
    ([], "none"),
    ([()], "-"),
    ([(), ()], "-/-"),
    ([(0,)], "0"),
    ([(30,)], "30"),
    ([(0, 14)], "0.14"),
    ([(1, 2, 3), (), (0,)], "1.2.3/-/0"),
    ([(28, 29, 30), (9, 10), (29, 30)], "28.29.30/9.10/29.30"),
    ([tuple(range(31))], ".".join([str(hole) for hole in range(31)])),
]

# Signs that are put into texts, from all that may stand there to a line feed and figures of other scripts.
SIGNS = "0123456789./-+_ abzAZ,:\n\t\u0661\u00b2\u00e4"


def chance_case(chance):
    """Any case, by chance, with full and empty cells and all cams."""
    wide, high = chance.randint(2, 15), chance.randint(2, 15)
    letters = "abcdefghijklmnopqrstuvwxyz"
    names = sorted({"".join([chance.choice(letters) for letter in range(chance.randint(1, 3))]) for name in range(99)})
    chance.shuffle(names)
    units = tuple([chance.randint(1, 30) for row in range(high)])
    cells = [[None] * wide for row in range(high)]
    for name in names[:chance.randint(0, wide * high - 1)]:
        row = chance.randrange(high)
        cells[row][chance.randrange(wide)] = (name, chance.choice([0, 1, -1] if units[row] > 1 else [0, 1]))
    cells[chance.randrange(high)][chance.randrange(wide)] = (" ", 0)
    return (units, tuple([tuple(row) for row in cells]))


def chance_ribbon(chance):
    """Any rows of holes, by chance, also such as are no signs."""
    lengths = [chance.choice([0, 1, 1, 2, 3, 5]) for row in range(chance.randint(0, 9))]
    return [tuple(sorted(chance.sample(range(31), many))) for many in lengths]


def put_otherwise(chance, text):
    """A text with one sign put in, left out or put otherwise."""
    at = chance.randint(0, len(text))
    how = chance.choice(["in", "out", "otherwise"])
    if how == "in":
        return text[:at] + chance.choice(SIGNS) + text[at:]
    if how == "out":
        return text[:at] + text[at + 1:]
    return text[:at] + chance.choice(SIGNS) + text[at + 1:]


def parts_as_written(row):
    """The holes of a row's text, by going through all numbers that may be written; None where it writes no row."""
    if row == "-":
        return ()
    known = {str(hole): hole for hole in range(31)}
    holes = [known.get(part, -1) for part in row.split(".")]
    return tuple(holes) if holes == sorted(set(holes)) and -1 not in holes else None


class Texts(unittest.TestCase):
    def refused(self, call, thing):
        kept = copy.deepcopy(thing)
        with self.assertRaises(NoText, msg=repr(thing)) as told:
            call(thing)
        self.assertIsInstance(told.exception, CastError)
        self.assertEqual(thing, kept)


class RibbonTexts(Texts):
    def test_written_ones(self):
        for ribbon, text in RIBBONS:
            self.assertEqual(ribbon_shown(ribbon), text)
            self.assertEqual(ribbon_read(text), ribbon)

    def test_what_is_read_is_a_list_of_tuples(self):
        for ribbon, text in RIBBONS:
            told = ribbon_read(text)
            self.assertIs(isinstance(told, list), True)
            self.assertEqual([isinstance(row, tuple) for row in told], [True] * len(told))

    def test_other_texts(self):
        for text in [
            "", " ", "/", "//", ".", "..", "--", "-.", ".-", "-.1", "1.-", "None", "NONE", "none ", " none", "nones",
            "none/-", "-/none", "none/none", "non", "-/", "/-", "-//-", "0/", "/0", "0//0", ".0", "0.", "0..1",
            "00", "01", "0.01", "014", "0.014", "00.14", "31", "0.31", "32", "99", "100", "300", "030", "1" * 5000,
            "14.0", "1.1", "0.0", "2.1", "0.2.1", "30.29", "-1", "-0", "+1", "1+", "0.-1", "1_0", "1e1", "0x1", "1.0.",
            "0 14", "0, 14", "0,14", " 0", "0 ", "0 /1", "0. 14", "0.14\n", "\n", "0\n", "0/\n1", "\n0", "-\n",
            "none\n",
            "a", "0.a", "\u0661", "\u00b2", "1\u0660", "\uff11", "(0, 14)", "[]", "()", "[(0, 14)]", "0;14", "0.14|1",
        ]:
            self.refused(ribbon_read, text)

    def test_no_texts(self):
        for thing in ODD_THINGS + [[], [()], [(0, 14)], ((0, 14),), ["0.14"], ("-",), ["none"], None, 0, 14, True]:
            if thing not in ("none", "-"):
                self.refused(ribbon_read, thing)

    def test_each_number(self):
        for number in range(200):
            if number <= 30:
                self.assertEqual(ribbon_read(str(number)), [(number,)])
                self.assertEqual(ribbon_shown([(number,)]), str(number))
            else:
                self.refused(ribbon_read, str(number))
            self.refused(ribbon_read, "0" + str(number))
            self.refused(ribbon_read, "-" + str(number))

    def test_more_than_four_hundred_rows(self):
        for many in (399, 400, 401, 3000):
            self.assertEqual(ribbon_read("/".join(["-"] * many)), [()] * many)
            self.assertEqual(ribbon_shown([()] * many), "/".join(["-"] * many))
        self.assertEqual(len(ribbon_read("/".join(["0.14"] * 1200))), 1200)

    def test_by_chance(self):
        chance = random.Random(23)
        read = 0
        for trial in range(3000):
            ribbon = chance_ribbon(chance)
            text = ribbon_shown(ribbon)
            self.assertEqual(ribbon_read(text), ribbon)
            changed = put_otherwise(chance, text)
            rows = [parts_as_written(row) for row in changed.split("/")]
            if changed == "none":
                self.assertEqual(ribbon_read(changed), [])
            elif None in rows:
                self.refused(ribbon_read, changed)
            else:
                self.assertEqual(ribbon_read(changed), rows)
                self.assertEqual(ribbon_shown(rows), changed)
                read += 1
        self.assertTrue(300 < read < 2500, read)

    def test_each_list_is_a_new_one(self):
        for text in ("none", "-", "0.14/1"):
            first = ribbon_read(text)
            kept = list(first)
            first.append("zzz")
            self.assertEqual(ribbon_read(text), kept)

    def test_what_is_handed_in_stays(self):
        for ribbon, text in RIBBONS:
            kept = copy.deepcopy(ribbon)
            ribbon_shown(ribbon)
            self.assertEqual(ribbon, kept)


class CaseTexts(Texts):
    def test_written_ones(self):
        for case, text in [(CASE, CASE_TEXT), (PLAIN_CASE, PLAIN_TEXT), (FIRST_CASE, "1 a _/1 - -")]:
            self.assertIs(is_case(case), True)
            self.assertEqual(case_shown(case), text)
            self.assertEqual(case_read(text), case)

    def test_what_is_read_is_a_case(self):
        for text in (CASE_TEXT, PLAIN_TEXT, "30 _ -/1 abc+ xyz"):
            self.assertIs(is_case(case_read(text)), True)

    def test_other_texts(self):
        for text in [
            "", " ", "/", "-", "_", "none", "1", "1/1", "1 a/1 -", "1 _/1 -", "1 a _", "1 a _/", "/1 a _",
            "1 a _//1 - -",
            "1 a _/1 - - ", " 1 a _/1 - -", "1 a _ /1 - -", "1 a _/ 1 - -", "1  a _/1 - -", "1 a _/1 -  -",
            "1 a _/1 - -/",
            "1 a _/1 - -\n", "\n1 a _/1 - -", "1 a _\n/1 - -", "1 a _/\n1 - -", "1\ta _/1 - -", "1 a _\n1 - -",
            "0 a _/1 - -", "31 a _/1 - -", "1 a _/31 - -", "01 a _/1 - -", "1 a _/01 - -", "+1 a _/1 - -",
            "-1 a _/1 - -",
            "100 a _/1 - -", "1.0 a _/1 - -", "a a _/1 - -", "a _/- -", "- a _/1 - -", "\u0661 a _/1 - -",
            "1_ a _/1 - -",
            "1 a _/1 -", "1 a _/1 - - -", "1 a/1 _ -", "1 a _ -/1 - -", "1 a -/1 - -", "1 a _/1 - _", "1 _ _/1 - -",
            "1 a _/1 a -", "1 a _/1 a+ -", "2 a+ _/2 a- -", "1 a- _/1 - -", "1 a _/1 b- -", "1 a _+/1 - -",
            "1 a _-/1 - -",
            "2 a _-/2 - -", "1 a _0/1 - -", "1 a+0 _/1 - -", "1 a0 _/1 - -", "1 a++ _/1 - -", "2 a-- _/1 - -",
            "2 a+- _/1 - -",
            "2 a-+ _/1 - -", "1 +a _/1 - -", "2 -a _/1 - -", "1 + _/1 - -", "2 -- _/1 - -", "2 a -_/1 - -",
            "1 abcd _/1 - -",
            "1 abcd+ _/1 - -", "1 A _/1 - -", "1 aB _/1 - -", "1 \u00e4 _/1 - -", "1 a1 _/1 - -", "1 None _/1 - -",
            "1 a _/1 - None", "1 a, _/1 - -", "1,a,_/1,-,-", "1 a _|1 - -", "1" * 5000 + " a _/1 - -", "1 a _;1 - -",
            "/".join(["1 a _"] + ["1 - -"] * 15), "1 a" + " -" * 15 + "/1 _" + " -" * 15,
        ]:
            self.refused(case_read, text)

    def test_the_bounds(self):
        for text in ["/".join(["1 a _"] + ["30 - -"] * 14), "1 a" + " -" * 14 + "/1 _" + " -" * 14]:
            self.assertEqual(case_shown(case_read(text)), text)
        for units in range(1, 31):
            self.assertEqual(case_read(f"{units} a+ _/1 - -")[0], (units, 1))

    def test_no_texts(self):
        for thing in ODD_THINGS + [CASE, PLAIN_CASE, list(CASE), [CASE_TEXT], (CASE_TEXT,), None, True, 1]:
            self.refused(case_read, thing)

    def test_each_text_is_read_back(self):
        chance = random.Random(231)
        for trial in range(200):
            case = chance_case(chance)
            self.assertIs(is_case(case), True)
            self.assertEqual(case_read(case_shown(case)), case)
        case = lay_out((3, 3), [("a", 3), ("b", 4), ("c", 7), ("ca", 9), ("bb", 9)])
        self.assertEqual(case_read(case_shown(case)), case)

    def test_texts_put_otherwise(self):
        chance = random.Random(232)
        read = 0
        for trial in range(3000):
            changed = put_otherwise(chance, chance.choice([CASE_TEXT, PLAIN_TEXT, "1 a _/1 - -"]))
            try:
                case = case_read(changed)
            except NoText:
                continue
            self.assertIs(is_case(case), True)
            self.assertEqual(case_shown(case), changed)
            read += 1
        self.assertTrue(100 < read < 1500, read)

    def test_what_is_handed_in_stays(self):
        self.assertEqual(case_shown(copy.deepcopy(CASE)), case_shown(CASE))


class GalleyTexts(Texts):
    def test_written_ones(self):
        for galley, text in [
            ([], "none"),
            ([[]], "-"),
            ([[], []], "-/-"),
            ([[("a", 50)]], "50:a"),
            ([[(" ", 30)]], "30:_"),
            ([[("ffi", 170), (" ", 34), ("a", 50)]], "170:ffi 34:_ 50:a"),
            ([[("a", 50)], [], [("b", 60), ("b", 60)]], "50:a/-/60:b 60:b"),
            ([[("xyz", 0), (" ", 999999999999)]], "0:xyz 999999999999:_"),
            ([[(" ", 0)], [(" ", 10)]], "0:_/10:_"),
        ]:
            kept = copy.deepcopy(galley)
            self.assertEqual(galley_shown(galley), text)
            self.assertEqual(galley, kept)

    def test_what_was_cast(self):
        chance = random.Random(233)
        for trial in range(60):
            job = (CASE, 3, chance.randint(1, 9), chance.randint(1, 3), chance.randint(60, 240))
            galley = cast_ribbon(job, ribbon_of(job, chance_lines(chance, job, 8)))
            text = galley_shown(galley)
            lines = [] if text == "none" else text.split("/")
            self.assertEqual(len(lines), len(galley))
            for line, pieces in zip(lines, galley):
                words = [] if line == "-" else line.split(" ")
                self.assertEqual(words, [str(width) + ":" + name.replace(" ", "_") for name, width in pieces])


if __name__ == "__main__":
    unittest.main()
