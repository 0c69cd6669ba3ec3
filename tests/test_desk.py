import random
import re
import unittest

from ribboncast.breaking import break_text, table_of
from ribboncast.cases import named
from ribboncast.desk import Desk
from ribboncast.errors import CastError, Loose, NoLine, NoLines, NoName, NoRow, NoStep, NoText, Tight, TooMany
from ribboncast.keyboard import bell_at
from ribboncast.notes import case_read, case_shown, galley_shown, ribbon_shown
from ribboncast.sorting import sort_back
from things import ReadThrough, joined, ribbon_by_the_document, told

FIRST = "1 a _/1 - -"
CASE_ROW = "5 a b+ c-/9 d e+ f-/18 ff - ffi-/2 - _ i-"

QUESTIONS = ["case", "ribbon", "cast", "pull", "back", "bell a a", "table a a"]


def desk_with(*rows):
    """A desk that was told these rows."""
    desk = Desk()
    for row in rows:
        desk.say(row)
    return desk


def shown(desk):
    """All that can be asked of a desk."""
    return [told(desk.say, row) for row in QUESTIONS]


class Refused(Exception):
    """What the document refuses a row with."""


class DeskByTheDocument:
    """Point 24: the deeds that aren't undone are done again from the first on at each row."""

    def __init__(self):
        self.done = []
        self.undone = []

    def answer(self, row):
        try:
            return self.answer_or_refuse(row)
        except Refused as e:
            return e.args

    def answer_or_refuse(self, row):
        words = row.split(" ")
        self.refuse_no_row(words)
        if row in ("undo", "redo"):
            source, target = (self.done, self.undone) if row == "undo" else (self.undone, self.done)
            if not source:
                raise Refused("NoStep", None)
            target.append(source.pop())
            return self.counted(self.kept())
        kept = self.kept()
        if words[0] in ("key", "open", "strike", "text", "mend", "job") or words[0] == "case" and len(words) > 1:
            fresh = self.after(kept, words)
            self.done.append(words)
            self.undone = []
            return self.counted(fresh)
        return self.question(kept, words)

    def refuse_no_row(self, words):
        """The form of a row, word by word."""
        numbers = {"job": words[1:], "mend": words[1:2]}.get(words[0], [])
        few = {"job": [5], "undo": [1], "redo": [1], "ribbon": [1], "cast": [1], "pull": [1], "back": [1]}
        many = ["case", "key", "open", "strike", "text", "bell", "table"]
        fair = words[0] in many or len(words) in few.get(words[0], []) or words[0] == "mend" and len(words) > 1
        whole = all(re.fullmatch("0|[1-9][0-9]{0,6}", number) for number in numbers)
        if "" in words or not fair or not whole:
            raise Refused("NoRow", None)

    def kept(self):
        kept = ((case_read(FIRST), 1, 1, 1, 100), [])
        for words in self.done:
            kept = self.after(kept, words)
        return kept

    def counted(self, kept):
        return f"{len(kept[1])} {len(ribbon_by_the_document(*kept))}"

    def after(self, kept, words):
        job, lines = kept
        deed, rest = words[0], words[1:]
        if deed == "case":
            case = told(case_read, " ".join(rest))
            if case == ("NoText", None):
                raise Refused(*case)
            return ((case,) + job[1:], [])
        if deed == "job":
            numbers = tuple([int(word) for word in rest])
            if not all(1 <= number <= most for number, most in zip(numbers, (1000, 100000, 1000, 1000000))):
                raise Refused("NoRow", None)
            return (job[:1] + numbers, [])
        fresh = list(lines)
        if deed == "text":
            fresh += self.text_lines(job, rest)
        elif deed == "mend":
            line = (self.line(job, rest[1:]), "kept")
            if int(rest[0]) >= len(lines):
                raise Refused("NoLine", None)
            fresh[int(rest[0])] = line
        else:
            fresh.append((self.line(job, rest), {"key": "kept", "open": "open", "strike": "struck"}[deed]))
        ribbon = ribbon_by_the_document(job, fresh)
        if isinstance(ribbon, tuple):
            raise Refused(*ribbon)
        return (job, fresh)

    def line(self, job, words):
        names = [told(named, job[0], word) for word in words]
        if ("NoName", None) in names:
            raise Refused("NoName", None)
        line = joined(names)
        if len(line) > 60 or line.count(" ") > 12:
            raise Refused("NoLines", None)
        return line

    def text_lines(self, job, words):
        if len(words) > 40:
            raise Refused("NoLines", None)
        broken = told(break_text, job, " ".join(words))
        if isinstance(broken, tuple):
            raise Refused(*broken)
        return [(names, "open" if at == len(broken) - 1 else "kept") for at, names in enumerate(broken)]

    def question(self, kept, words):
        job, lines = kept
        ribbon = ribbon_by_the_document(job, lines)
        galley = ReadThrough(job, ribbon).galley()
        if words[0] == "case":
            return case_shown(job[0])
        if words[0] == "ribbon":
            return ribbon_shown(ribbon)
        if words[0] == "cast":
            return galley_shown(galley)
        if words[0] == "pull":
            pulled = ["".join(names) for names, way in lines if way != "struck"]
            return "/".join(pulled) if pulled else "none"
        if words[0] == "back":
            cells = [",".join([str(number) for number in cell]) for cell in sort_back(job[0], galley)]
            return " ".join(cells) if cells else "none"
        if words[0] == "bell":
            many = bell_at(job, self.line(job, words[1:]))
            return "none" if many is None else str(many)
        if len(words) > 41:
            raise Refused("NoLines", None)
        table = told(table_of, job, " ".join(words[1:]))
        if isinstance(table, tuple):
            raise Refused(*table)
        return " ".join(["none" if entry is None else f"{entry[0]},{entry[1]}" for entry in table])


class Desks(unittest.TestCase):
    def refused(self, error, desk, row, by=None):
        """The row is refused, and changes nothing, the steps back and forth neither."""
        before = shown(desk)
        with self.assertRaises(error, msg=row) as known:
            desk.say(row)
        self.assertIsInstance(known.exception, CastError)
        if by is not None:
            self.assertEqual(known.exception.by, by)
        self.assertEqual(shown(desk), before)


class Questions(Desks):
    def test_the_first_case_and_job(self):
        desk = Desk()
        self.assertEqual(desk.say("case"), FIRST)
        self.assertEqual([desk.say(row) for row in ("ribbon", "cast", "pull", "back")], ["none"] * 4)
        # a and the least blank have 1 grain each, and so has a fine step; the measure is 100.
        self.assertEqual(desk.say("bell " + "a" * 60), "none")
        self.assertEqual(desk.say("key a a"), "1 5")
        self.assertEqual(desk.say("cast"), "1:a 98:_ 1:a")
        self.assertEqual(desk.say("open a a"), "2 10")
        self.assertEqual(desk.say("cast"), "1:a 1:_ 1:a/1:a 98:_ 1:a")
        self.refused(Loose, desk, "key a", 99)
        self.refused(Loose, desk, "key", 100)
        desk.say("job 1 1 1 99")
        self.assertEqual([desk.say("key a a"), desk.say("cast")], ["1 5", "1:a 97:_ 1:a"])

    def test_ribbon(self):
        desk = desk_with("open a a", "strike", "open")
        self.assertEqual(desk.say("ribbon"), "0.14/14.28/0.14/14.28.29/14.28.30/28.29.30/14.28.29/14.28.30")

    def test_cast(self):
        desk = desk_with("open a a", "strike a", "open", "key aa aa", "open a")
        self.assertEqual(desk.say("cast"), "1:a/1:a 1:a 96:_ 1:a 1:a/-/1:a 1:_ 1:a")
        self.assertEqual(desk_with("strike a").say("cast"), "none")
        self.assertEqual(desk_with("open").say("cast"), "-")

    def test_case(self):
        self.assertEqual(desk_with("case " + CASE_ROW).say("case"), CASE_ROW)
        self.assertEqual(desk_with("case " + CASE_ROW, "undo").say("case"), FIRST)

    def test_pull(self):
        for rows, pull in [
            ([], "none"),
            (["strike a a"], "none"),
            (["open"], ""),
            (["open", "open"], "/"),
            (["open a"], "a"),
            (["open aa a", "strike a", "open", "key a a a"], "aa a//a a a"),
        ]:
            self.assertEqual(desk_with(*rows).say("pull"), pull)

    def test_back(self):
        for rows, back in [
            ([], "none"),
            (["open"], "none"),
            (["strike a a"], "none"),
            (["open a"], "0,0,1"),
            (["open a a"], "0,0,2 1,0,1"),
            (["case " + CASE_ROW, "open face a ffi", "strike face", "open cc"],
             "0,0,2 1,1,1 1,3,2 2,0,3 2,1,1 2,2,1"),
        ]:
            self.assertEqual(desk_with(*rows).say("back"), back)

    def test_bell(self):
        desk = desk_with("job 1 2 1 4")
        for row, bell in [
            ("bell", "none"), ("bell a", "none"), ("bell aaaa", "4"), ("bell aaaaa", "4"), ("bell a a", "2"),
            ("bell aa a", "3"), ("bell aaa a", "none"), ("bell " + "a" * 60, "4"),
        ]:
            self.assertEqual(desk.say(row), bell)

    def test_the_refusals_of_bell(self):
        desk = Desk()
        for row in ["bell b", "bell a b", "bell A", "bell _", "bell -", "bell a,", "bell " + "a" * 60 + " b", "bell 1",
                    "bell a bell"]:
            self.refused(NoName, desk, row)
        self.assertEqual(desk.say("bell " + "a" * 60), "none")
        self.refused(NoLines, desk, "bell " + "a" * 61)
        self.refused(NoLines, desk, "bell " + " ".join("a" * 14))
        self.assertEqual(desk.say("bell " + " ".join("a" * 13)), "2")

    def test_table(self):
        desk = desk_with("case 1 a _/2 b -/3 c -/4 abc -", "job 1 2 1 4")
        for row, table in [
            ("table", "0,0"),
            ("table a", "1,0 0,0"),
            ("table c a a c", "none 2,0 none 1,0 0,0"),
            ("table ccc", "none 0,0"),
        ]:
            self.assertEqual(desk.say(row), table)
        desk.say("job 1 2 1 12")
        self.assertEqual(desk.say("table c c c"), "2,16 1,0 1,0 0,0")

    def test_the_refusals_of_table(self):
        desk = Desk()
        self.assertEqual(desk.say("table" + " a" * 40).count(" "), 40)
        self.refused(NoLines, desk, "table" + " a" * 41)
        self.refused(NoLines, desk, "table" + " b" * 41)
        for row in ["table b", "table a b", "table" + " a" * 39 + " b", "table A", "table 1"]:
            self.refused(NoName, desk, row)

    def test_questions_change_nothing(self):
        desk = desk_with("open a a", "key a a", "undo")
        first = shown(desk)
        self.assertEqual(shown(desk), first)
        self.assertEqual(desk.say("redo"), "2 10")
        shown(desk)
        self.assertEqual(desk.say("undo"), "1 5")
        shown(desk)
        self.assertEqual(desk.say("undo"), "0 0")

    def test_answers_are_texts(self):
        desk = desk_with("open a a", "key a a")
        for row in QUESTIONS + ["undo", "redo", "open a", "text a a a", "job 1 1 1 1", "case 1 a _/1 - -"]:
            self.assertIs(isinstance(desk.say(row), str), True, row)


class Deeds(Desks):
    def test_lines_and_rows_are_counted(self):
        desk = Desk()
        for row, counts in [
            ("open a", "1 3"), ("strike a", "2 5"), ("strike", "3 6"), ("open", "4 8"), ("key a a", "5 13"),
            ("text a a a", "6 20"), ("text", "6 20"), ("mend 0 aa aa", "6 24"), ("mend 2 a a", "6 28"),
            ("undo", "6 24"),
            ("redo", "6 28"), ("job 1 1 1 100", "0 0"), ("open", "1 2"), ("case 2 a _/1 - -", "0 0"), ("undo", "1 2"),
        ]:
            self.assertEqual(desk.say(row), counts, row)

    def test_case(self):
        desk = desk_with("job 2 3 4 50", "open a")
        self.assertEqual(desk.say("case 7 b _/1 c+ -"), "0 0")
        self.assertEqual(desk.say("case"), "7 b _/1 c+ -")
        self.assertEqual(desk.say("ribbon"), "none")
        # The numbers of the job stay.
        desk.say("open b c")
        self.assertEqual(desk.say("cast"), "4:c 3:_ 14:b")
        self.refused(Tight, desk, "open bbbb", 6)
        self.refused(NoName, desk, "open a")

    def test_the_refusal_of_case(self):
        desk = desk_with("open a")
        for words in ["a", "1", "none", "1 a _", "1 a _/1 -", "1 a _/1 - - -", "0 a _/1 - -", "31 a _/1 - -",
                      "01 a _/1 - -",
                      "1 a- _/1 - -", "1 a _/1 a -", "1 a _/1 _ -", "1 a -/1 - -", "1 A _/1 - -", "1 a _ / 1 - -",
                      "case",
                      "1 abcd _/1 - -", "1 a _/1 - -/", "1,a,_/1,-,-", "1 a++ _/1 - -"]:
            self.refused(NoText, desk, "case " + words)
        for row in ["case 1 a _/1 - - ", "case  1 a _/1 - -", "case ", " case", "case 1  a _/1 - -"]:
            self.refused(NoRow, desk, row)

    def test_job(self):
        desk = desk_with("open a")
        self.assertEqual(desk.say("job 3 5 2 20"), "0 0")
        self.assertEqual(desk.say("key a a"), "1 5")
        self.assertEqual(desk.say("cast"), "3:a 13:_ 3:a")
        self.assertEqual(desk.say("case"), FIRST)
        for row in ["job 1 1 1 1", "job 1000 100000 1000 1000000"]:
            self.assertEqual(desk.say(row), "0 0")

    def test_the_refusals_of_job(self):
        desk = desk_with("open a")
        for numbers in ["", "1", "1 1 1", "1 1 1 1 1", "0 1 1 1", "1 0 1 1", "1 1 0 1", "1 1 1 0", "1001 1 1 1",
                        "1 100001 1 1",
                        "1 1 1001 1", "1 1 1 1000001", "1 1 1 9999999", "1 1 1 10000000", "01 1 1 1", "1 1 1 0100",
                        "1 1 1 00",
                        "1 1 1 0000001", "a 1 1 1", "1 1 1 a", "-1 1 1 1", "+1 1 1 1", "1 1 1 1.", "1 1 1 1_0",
                        "1 1 1 ",
                        "1  1 1", "1 1 1 1 ", "1,1,1,1", "1e1 1 1 1"]:
            self.refused(NoRow, desk, "job " + numbers)
        self.refused(NoRow, desk, "job")

    def test_keyed_lines(self):
        desk = desk_with("case " + CASE_ROW, "job 10 30 2 380")
        # f, a, c, e and a have 320 grains, with the least blank 350.
        self.assertEqual(desk.say("key face a"), "1 8")
        self.assertEqual(desk.say("open ffi ff"), "2 13")
        self.assertEqual(desk.say("strike ffiffi f"), "3 18")
        self.assertEqual(desk.say("pull"), "face a/ffi ff")
        self.assertEqual(desk.say("cast"), "180:ff 30:_ 170:ffi/50:a 60:_ 100:e 40:c 50:a 80:f")

    def test_no_names_are_an_empty_line(self):
        self.assertEqual(desk_with("open").say("ribbon"), "14.28.29/14.28.30")
        self.assertEqual(desk_with("strike").say("ribbon"), "28.29.30")
        self.refused(Loose, Desk(), "key", 100)

    def test_no_name(self):
        desk = desk_with("open a")
        for deed in ("key", "open", "strike", "text", "mend 0", "mend 9", "bell", "table"):
            for words in ["b", "a b", "b a", "A", "aB", "_", "-", "a-", "a/a", "1", "a a a ~", "!", '"',
                          "a" * 70 + "b", "a_",
                          "none", "key", "undo"]:
                self.refused(NoName, desk, deed + " " + words)

    def test_a_line_that_is_too_long(self):
        desk = desk_with("job 1 1 1 1000000", "open a")
        for deed in ("key", "open", "strike", "mend 0", "mend 9", "bell"):
            for words in ["a" * 61, "a" * 60 + " a", "a" * 30 + " " + "a" * 30, " ".join("a" * 14), "a" * 350]:
                self.refused(NoLines, desk, deed + " " + words)
        for words in ["a" * 60, "a" * 58 + " a", "a" * 29 + " " + "a" * 30, " ".join("a" * 13), "a" * 36 + " a" * 12]:
            for deed in ("open", "strike"):
                names = len(words)
                before = desk.say("ribbon").count("/") + 1
                rows = names + (2 if deed == "open" else 1)
                self.assertEqual(desk.say(deed + " " + words).split(" ")[1], str(before + rows))
                desk.say("undo")

    def test_names_count_and_not_signs(self):
        desk = desk_with("case 1 abc _/1 - -", "job 1 1 1 1000")
        self.assertEqual(desk.say("open " + "abc" * 60), "1 62")
        self.refused(NoLines, desk, "open " + "abc" * 61)

    def test_tight_and_loose(self):
        desk = desk_with("job 1 2 1 5", "open a")
        for deed in ("key", "open"):
            self.refused(Tight, desk, deed + " aaaaaa", 1)
            self.refused(Tight, desk, deed + " aaa aaa", 3)
        self.refused(Tight, desk, "mend 0 aaaaaa", 1)
        self.refused(Loose, desk, "key a", 4)
        self.refused(Loose, desk, "mend 0 a", 4)
        self.assertEqual(desk.say("strike aaaaaa"), "2 10")
        self.assertEqual(desk.say("open a"), "3 13")
        self.assertEqual(desk.say("key a a"), "4 18")
        self.assertEqual(desk.say("mend 0 aaaaa"), "4 22")

    def test_too_many(self):
        desk = Desk()
        for line in range(6):
            desk.say("strike " + "a" * 59)
        desk.say("strike " + "a" * 38)
        self.assertEqual(desk.say("strike"), "8 400")
        for row in ["strike", "open", "strike a", "open a", "key a a", "text a", "text a a a", "mend 7 a a"]:
            self.refused(TooMany, desk, row)
        # All else comes ahead of it.
        self.refused(NoName, desk, "strike b")
        self.refused(NoLines, desk, "strike " + "a" * 61)
        self.refused(Loose, desk, "key a", 99)
        self.refused(NoName, desk, "text b")
        self.refused(NoLines, desk, "text " + "a" * 61)
        self.refused(NoLine, desk, "mend 8 a a")
        self.refused(Loose, desk, "mend 7 a", 99)
        self.assertEqual(desk.say("text"), "8 400")
        self.assertEqual(desk.say("mend 0 a a"), "8 345")
        self.assertEqual(desk.say("strike " + "a" * 54), "9 400")
        self.refused(TooMany, desk, "strike")

    def test_text(self):
        desk = desk_with("case 1 a _/2 b -/3 c -/4 abc -", "job 1 2 1 12")
        self.assertEqual(desk.say("text c c c"), "2 8")
        self.assertEqual(desk.say("pull"), "c c/c")
        # The last line is open: its blanks have their least width.
        self.assertEqual(desk.say("text c c a b b a"), "4 22")
        self.assertEqual(desk.say("pull"), "c c/c/c c a/b b a")
        self.assertEqual(desk.say("cast"), "1:a 2:_ 2:b 2:_ 2:b/1:a 2:_ 3:c 2:_ 3:c/3:c/3:c 6:_ 3:c")
        self.assertEqual(desk.say("text"), "4 22")

    def test_the_refusals_of_text(self):
        desk = desk_with("case 1 a _/2 b -/3 c -/4 abc -", "job 1 2 1 4", "open a")
        self.refused(NoLines, desk, "text c a a c")
        self.refused(NoLines, desk, "text ccc")
        self.refused(NoName, desk, "text ccc x")
        self.refused(NoLines, desk, "text" + " x" * 41)
        self.refused(NoLines, desk, "text" + " a" * 41)
        self.refused(NoName, desk, "text" + " x" * 40)
        desk.say("job 1 1 1 37")
        self.assertEqual(desk.say("text" + " a" * 40), "4 84")

    def test_mend(self):
        desk = desk_with("open a", "strike a", "key a a", "open")
        self.assertEqual(desk.say("mend 0 aa a"), "4 15")
        self.assertEqual(desk.say("pull"), "aa a/a a/")
        self.assertEqual(desk.say("mend 1 a aa"), "4 19")
        self.assertEqual(desk.say("pull"), "aa a/a aa/a a/")
        self.assertEqual(desk.say("mend 3 a a a"), "4 24")
        self.assertEqual(desk.say("pull"), "aa a/a aa/a a/a a a")
        # The mended line is kept, so its blanks are widened.
        self.assertEqual(desk.say("cast").split("/")[0], "1:a 48:_ 1:a 48:_ 1:a")

    def test_the_refusals_of_mend(self):
        desk = desk_with("open a", "strike a")
        for number in ["2", "3", "400", "9999999"]:
            self.refused(NoLine, desk, f"mend {number} a a")
            self.refused(NoLine, desk, f"mend {number} a")
            self.refused(NoLine, desk, f"mend {number}")
            self.refused(NoName, desk, f"mend {number} b")
            self.refused(NoLines, desk, f"mend {number} " + "a" * 61)
        self.refused(Loose, desk, "mend 0", 100)
        self.refused(Loose, desk, "mend 1 a", 99)
        for row in ["mend", "mend ", "mend a", "mend a a", "mend -1 a a", "mend 00 a a", "mend 01 a a",
                    "mend 10000000 a a",
                    "mend 0  a a", "mend 0 a a ", "mend +0 a a", "mend 0. a a", "mend b", "mend x b"]:
            self.refused(NoRow, desk, row)
        self.refused(NoLine, Desk(), "mend 0 a a")

    def test_two_desks(self):
        first, second = Desk(), Desk()
        first.say("open a a")
        self.assertEqual(second.say("ribbon"), "none")
        self.refused(NoStep, second, "undo")
        second.say("case " + CASE_ROW)
        second.say("job 10 30 2 200")
        self.assertEqual(first.say("case"), FIRST)
        second.say("open b")
        self.assertEqual([first.say("pull"), second.say("pull")], ["a a", "b"])
        self.assertEqual(first.say("undo"), "0 0")
        self.assertEqual(second.say("pull"), "b")
        self.refused(NoStep, second, "redo")
        self.assertEqual(Desk().say("case"), FIRST)


class Rows(Desks):
    def test_rows_that_are_none(self):
        desk = desk_with("open a", "open a", "undo")
        for row in [
            "", " ", "  ", "a", "key ", " key a", "key  a", "key a ", "open ", " open", "open a  a", "strike ",
            "text ", "text a  a",
            "bell ", "bell  a", "table ", "table a ", "Key a", "KEY a", "keys a", "kept a", "struck a", "say", "none",
            "0", "-", "~",
            "undo ", " undo", "undo 1", "undo undo", "undo a", "redo ", "redo 1", "redo redo", "ribbon ", "ribbon a",
            "ribbon none",
            "cast a", "cast ", "pull a", "pull ", "back a", "back 1 1 1", "Undo", "job", "job 1 1 1", "mend", "lines",
            "quit",
            "undo,", "undo/redo", "casting", "ribbons", "back back", "galley", "keyboard a", "!", "\"case\"", "cases",
            "c", "a b",
        ]:
            self.refused(NoRow, desk, row)
        self.assertEqual(desk.say("redo"), "2 6")

    def test_no_row_comes_ahead_of_all_else(self):
        desk = Desk()
        for row in ["key b ", "key  b", "key " + "b" * 61 + " ", "case x ", "case  x", "text  b", "mend x b",
                    "mend 00 b", "mend  b",
                    "mend 9 b ", "undo ", "redo ", "bell b ", "table b ", "strike  b", "job 0 0 0", "job 0 0 0 x"]:
            self.refused(NoRow, desk, row)


class Steps(Desks):
    def test_nothing_to_step_over(self):
        desk = Desk()
        self.refused(NoStep, desk, "undo")
        self.refused(NoStep, desk, "redo")
        desk.say("open a")
        self.refused(NoStep, desk, "redo")
        desk.say("undo")
        self.refused(NoStep, desk, "undo")
        desk.say("redo")
        self.refused(NoStep, desk, "redo")

    def test_over_deeds_of_all_kinds(self):
        rows = ["open a", "key a a", "strike aa", "text a a aa", "mend 0 aa a", "mend 2 a aa", "text", "job 2 3 1 30",
                "open a",
                "case " + CASE_ROW, "text cab", "job 1 1 1 100", "key a b", "mend 0 c f", "case " + FIRST, "open",
                "strike"]
        desk = Desk()
        states = [shown(desk)]
        counts = ["0 0"]
        for row in rows:
            counts.append(desk.say(row))
            states.append(shown(desk))
        for back in range(len(rows), 0, -1):
            self.assertEqual(shown(desk), states[back])
            self.assertEqual(desk.say("undo"), counts[back - 1])
        self.assertEqual(shown(desk), states[0])
        self.refused(NoStep, desk, "undo")
        for forth in range(len(rows)):
            self.assertEqual(shown(desk), states[forth])
            self.assertEqual(desk.say("redo"), counts[forth + 1])
        self.assertEqual(shown(desk), states[-1])
        self.refused(NoStep, desk, "redo")

    def test_a_deed_that_leaves_all_as_it_was_is_one(self):
        for row in ["text", "case " + FIRST, "job 1 1 1 100"]:
            desk = desk_with(row)
            self.assertEqual(desk.say("undo"), "0 0")
            self.refused(NoStep, desk, "undo")
            self.assertEqual(desk.say("redo"), "0 0")
            desk = desk_with("open a", "undo", row)
            self.refused(NoStep, desk, "redo")
        desk = desk_with("open a", "key a a", "mend 1 a a")
        self.assertEqual([desk.say("undo"), desk.say("undo")], ["2 8", "1 3"])

    def test_a_deed_behind_an_undo(self):
        desk = desk_with("open a", "open aa", "undo", "open aaa")
        self.refused(NoStep, desk, "redo")
        self.assertEqual(desk.say("pull"), "a/aaa")
        desk.say("undo")
        self.assertEqual(desk.say("pull"), "a")
        desk.say("redo")
        self.assertEqual(desk.say("pull"), "a/aaa")
        self.refused(NoStep, desk, "redo")
        desk = desk_with("open a", "open aa", "undo", "undo", "strike")
        self.refused(NoStep, desk, "redo")
        desk.say("undo")
        self.assertEqual(desk.say("redo"), "1 1")
        self.refused(NoStep, desk, "redo")

    def test_what_is_refused_is_no_deed(self):
        desk = desk_with("open a", "open aa", "undo")
        for row in ["key a", "open b", "strike " + "a" * 61, "text b", "mend 7 a a", "mend 0 a", "case x",
                    "job 0 0 0 0", "", "x",
                    "bell b", "table b"]:
            with self.assertRaises(CastError):
                desk.say(row)
        self.assertEqual(desk.say("redo"), "2 7")
        self.assertEqual(desk.say("pull"), "a/aa")
        self.assertEqual([desk.say("undo"), desk.say("undo")], ["1 3", "0 0"])

    def test_many_steps(self):
        desk = Desk()
        for many in range(1, 201):
            self.assertEqual(desk.say("open"), f"{many} {2 * many}")
        for many in range(199, -1, -1):
            self.assertEqual(desk.say("undo"), f"{many} {2 * many}")
        self.refused(NoStep, desk, "undo")


class ByChance(Desks):
    def chance_words(self, chance, most):
        words = ["a", "a", "b", "ab", "c", "cab", "ffi", "aaaa"]
        return " ".join([chance.choice(words) for word in range(chance.randint(0, most))])

    def row_by_chance(self, chance):
        kinds = ["key", "key", "open", "strike", "text", "mend", "undo", "undo", "redo", "job", "case", "ask", "odd"]
        kind = chance.choice(kinds)
        if kind in ("undo", "redo"):
            return kind
        if kind in ("key", "open", "strike"):
            return (kind + " " + self.chance_words(chance, 7)).rstrip(" ")
        if kind == "text":
            return ("text " + self.chance_words(chance, chance.choice([5, 30, 44]))).rstrip(" ")
        if kind == "mend":
            number = chance.choice(["0", "1", "2", "3", "9", "00", "x", "10000000"])
            return f"mend {number} {self.chance_words(chance, 5)}".rstrip(" ")
        if kind == "job":
            if chance.random() < 0.6:
                return "open a"
            grains, least, fine = chance.choice([0, 1, 1, 2, 3]), chance.choice([1, 2, 5]), chance.choice([1, 1, 2])
            return f"job {grains} {least} {fine} {chance.randint(0, 60)}"
        if kind == "case":
            cases = [CASE_ROW, CASE_ROW, "1 a _/2 b c", "1 a _/2 b ab", FIRST, "1 a _/1 a -", "x"]
            return "case " + chance.choice(cases) if chance.random() < 0.4 else "case"
        if kind == "ask":
            asked = ["ribbon", "cast", "pull", "back", "case", "bell a ab c", "table a ab c a", "bell x", "table x"]
            return chance.choice(asked)
        return chance.choice(["redo ", " ", "key", "text", "bell", "table", "strike", "open", "mend", "undo x"])

    def test_against_the_document(self):
        chance = random.Random(24)
        seen = {}
        for trial in range(120):
            desk, model = Desk(), DeskByTheDocument()
            case = chance.choice([CASE_ROW, "1 a _/2 b c"])
            least, measure = chance.randint(1, 4), chance.randint(5, 50)
            for row in [f"case {case}", f"job 1 {least} 1 {measure}"]:
                self.assertEqual(told(desk.say, row), model.answer(row))
            for turn in range(35):
                row = self.row_by_chance(chance)
                due = model.answer(row)
                self.assertEqual(told(desk.say, row), due, row)
                kind = due[0] if isinstance(due, tuple) else row.split(" ")[0]
                seen[kind] = seen.get(kind, 0) + 1
        for kind in ["NoName", "NoLine", "NoLines", "Tight", "Loose", "NoRow", "NoStep", "NoText", "key", "open",
                     "strike", "text",
                     "mend", "undo", "redo", "job", "case", "ribbon", "cast", "pull", "back", "bell", "table"]:
            self.assertGreater(seen.get(kind, 0), 3, kind)


if __name__ == "__main__":
    unittest.main()
