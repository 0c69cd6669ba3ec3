"""The desk, which keeps a job and keyed lines by the rows that it is told."""

from ribboncast.breaking import MOST_WORDS, break_text, line_of_words, named_words, table_of
from ribboncast.caster import cast_ribbon, pull_of
from ribboncast.errors import NoLine, NoLines, NoRow, NoStep
from ribboncast.keyboard import bell_at, fits_a_line, is_job
from ribboncast.notes import NOTHING, case_read, case_shown, galley_shown, ribbon_shown, slashed, whole_read
from ribboncast.ribbons import ribbon_of
from ribboncast.sorting import sort_back

FIRST_CASE = "1 a _/1 - -"
MOST_FIGURES = 7


def kept_with(job, lines):
    """What a desk keeps, a tuple (job, lines, ribbon), or refused as the ribbon of the lines is."""
    # A deed makes a new one and changes nothing in the old, which undo goes back to.
    return (job, lines, ribbon_of(job, lines))


def first_kept():
    """What a desk keeps at first."""
    return kept_with((case_read(FIRST_CASE), 1, 1, 1, 100), [])


def number_told(word):
    """The number that a word of a row writes, or NoRow."""
    number = whole_read(word, MOST_FIGURES)
    if number is None:
        raise NoRow("a number was due here")
    return number


def line_told(job, words):
    """The names of the line of these words, or NoName, NoLines."""
    names = line_of_words(named_words(job, words))
    if not fits_a_line(names):
        raise NoLines("this is too long for a line")
    return names


def text_told(words):
    """The text of these words, or NoLines."""
    if len(words) > MOST_WORDS:
        raise NoLines("these words are too many for a text")
    return " ".join(words)


def with_case(kept, words):
    """What is kept behind the deed case."""
    job, lines, ribbon = kept
    return kept_with((case_read(" ".join(words)),) + job[1:], [])


def with_numbers(kept, words):
    """What is kept behind the deed job."""
    job, lines, ribbon = kept
    fresh = (job[0],) + tuple([number_told(word) for word in words])
    if not is_job(fresh):
        raise NoRow("these numbers make no job")
    return kept_with(fresh, [])


def with_line(kept, words, way):
    """What is kept behind the deeds key, open and strike."""
    job, lines, ribbon = kept
    return kept_with(job, lines + [(line_told(job, words), way)])


def with_text(kept, words):
    """What is kept behind the deed text."""
    job, lines, ribbon = kept
    broken = break_text(job, text_told(words))
    full = [(names, "kept") for names in broken[:-1]]
    last = [(names, "open") for names in broken[-1:]]
    return kept_with(job, lines + full + last)


def with_mended(kept, words):
    """What is kept behind the deed mend."""
    job, lines, ribbon = kept
    k = number_told(words[0])
    names = line_told(job, words[1:])
    if k >= len(lines):
        raise NoLine("no line has this number")
    return kept_with(job, lines[:k] + [(names, "kept")] + lines[k + 1:])


def behind_deed(kept, word, words):
    """What is kept behind the deed of a row, None where the row tells no deed."""
    if word == "case" and words:
        return with_case(kept, words)
    if word == "job" and len(words) == 4:
        return with_numbers(kept, words)
    if word == "key":
        return with_line(kept, words, "kept")
    if word == "open":
        return with_line(kept, words, "open")
    if word == "strike":
        return with_line(kept, words, "struck")
    if word == "text":
        return with_text(kept, words)
    if word == "mend" and words:
        return with_mended(kept, words)
    return None


def bell_shown(job, names):
    """The bell of a line as a text."""
    many = bell_at(job, names)
    return NOTHING if many is None else str(many)


def entry_shown(entry):
    """An entry of a table as a text."""
    if entry is None:
        return NOTHING
    lines, waste = entry
    return f"{lines},{waste}"


def table_shown(table):
    """A table as a text."""
    return " ".join([entry_shown(entry) for entry in table])


def back_shown(sorted_back):
    """What came back to the cells as a text."""
    if not sorted_back:
        return NOTHING
    return " ".join([f"{column},{row},{many}" for column, row, many in sorted_back])


def answer_alone(kept, word):
    """The answer to a question of one word, or NoRow."""
    job, lines, ribbon = kept
    if word == "case":
        return case_shown(job[0])
    if word == "ribbon":
        return ribbon_shown(ribbon)
    if word == "cast":
        return galley_shown(cast_ribbon(job, ribbon))
    if word == "pull":
        return slashed(pull_of(cast_ribbon(job, ribbon)))
    if word == "back":
        return back_shown(sort_back(job[0], cast_ribbon(job, ribbon)))
    raise NoRow("the desk doesn't know this word")


def answer_to(kept, word, words):
    """The answer to a question, or NoRow for a row that is none."""
    job, lines, ribbon = kept
    if word == "bell":
        return bell_shown(job, line_told(job, words))
    if word == "table":
        return table_shown(table_of(job, text_told(words)))
    if words:
        raise NoRow("the desk doesn't know this row")
    return answer_alone(kept, word)


class Desk:
    """A desk, with what it keeps, what it kept ahead of each deed, and behind each deed that is undone."""

    def __init__(self):
        self.kept = first_kept()
        self.past = []
        self.undone = []

    def counted(self):
        """How many lines and rows there are, as a text."""
        job, lines, ribbon = self.kept
        return f"{len(lines)} {len(ribbon)}"

    def step_over(self, source, target):
        """Take up what was put on the source last, and put what is kept on the target, or NoStep."""
        if not source:
            raise NoStep("there is no deed to step over")
        target.append(self.kept)
        self.kept = source.pop()
        return self.counted()

    def keep(self, kept):
        """Keep what a deed made."""
        self.past.append(self.kept)
        self.undone.clear()
        self.kept = kept
        return self.counted()

    def say(self, row):
        """The answer to a row, or a refusal."""
        words = row.split(" ")
        if "" in words:
            raise NoRow("a word of this row has no signs")
        if words == ["undo"]:
            return self.step_over(self.past, self.undone)
        if words == ["redo"]:
            return self.step_over(self.undone, self.past)
        kept = behind_deed(self.kept, words[0], words[1:])
        if kept is None:
            return answer_to(self.kept, words[0], words[1:])
        return self.keep(kept)
