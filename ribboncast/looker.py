"""The looker, which lets papers by that hold, whoever wrote them."""

from ribboncast.breaking import MOST_WORDS, named_words, table_by_words, waste_by_lengths
from ribboncast.cases import BLANK, GREATEST_UNITS, is_case, is_name, names_in, size_of, units_of
from ribboncast.errors import Loose, NoName, NoPaper, Tight, TooMany
from ribboncast.holes import LAST_STEP, is_row_of_holes, is_size
from ribboncast.keyboard import NO_STEPS, fits_a_line, is_job, line_width
from ribboncast.kinds import is_tuple_of, is_whole, is_whole_within
from ribboncast.laying import cams_in
from ribboncast.ribbons import ribbon_of

MOST_LETTERS = 60
MOST_LINES = 60
WAYS = ("kept", "open", "struck")


def is_letter(thing):
    """Tell whether any thing is a name with a width."""
    return is_tuple_of(thing, 2) and is_name(thing[0]) and is_whole_within(thing[1], 1, GREATEST_UNITS)


def are_letters(thing):
    """Tell whether any thing is letters that may be laid out."""
    if not isinstance(thing, list) or len(thing) > MOST_LETTERS:
        return False
    if not all([is_letter(letter) for letter in thing]):
        return False
    return len(set([name for name, width in thing])) == len(thing)


def laid_fault(size, letters, case, cams):
    """The first clause by which a paper of letters laid out fails, None where it holds."""
    if not is_size(size):
        return 2
    if not are_letters(letters):
        return 3
    if not is_case(case) or size_of(case) != size:
        return 4
    if names_in(case) != sorted([name for name, width in letters]):
        return 5
    if not all([units_of(case, name) == width for name, width in letters]):
        return 6
    # A truth would be equal to a number.
    if not is_whole(cams) or cams != cams_in(case):
        return 7
    return None


def are_line_names(case, thing):
    """Tell whether any thing is the names of a line."""
    if not isinstance(thing, list) or not fits_a_line(thing):
        return False
    known = names_in(case) + [BLANK]
    return all([name in known for name in thing])


def is_step(thing):
    """Tell whether any thing is a coarse or a fine step."""
    return is_whole_within(thing, 0, LAST_STEP)


def line_fault(job, names, coarse, fine):
    """The first clause by which a paper of a line fails, None where it holds."""
    if not is_job(job):
        return 2
    if not are_line_names(job[0], names):
        return 3
    if not is_step(coarse) or not is_step(fine):
        return 4
    short = job[4] - line_width(job, names, (coarse, fine))
    if short < 0:
        return 5
    blanks = names.count(BLANK)
    # Without blanks the line may lack nothing.
    if short >= max(job[3] * blanks, 1):
        return 6
    if blanks == 0 and (coarse, fine) != NO_STEPS:
        return 7
    return None


def named_or_none(job, thing):
    """The named words of a list of words that may make a text, None for any other thing."""
    if not isinstance(thing, list) or len(thing) > MOST_WORDS:
        return None
    if not all([isinstance(word, str) and word != "" for word in thing]):
        return None
    try:
        return named_words(job, thing)
    except NoName:
        return None


def are_lengths(thing, many):
    """Tell whether any thing is a list of whole numbers from 1 on that come to so many."""
    if not isinstance(thing, list):
        return False
    return all([is_whole(length) and length >= 1 for length in thing]) and sum(thing) == many


def is_entry(thing):
    """Tell whether any thing may stand in a table."""
    return thing is None or (is_tuple_of(thing, 2) and is_whole(thing[0]) and is_whole(thing[1]))


def is_table(thing, many):
    """Tell whether any thing has the form of the table of so many words."""
    if not isinstance(thing, list) or len(thing) != many + 1:
        return False
    return all([is_entry(entry) for entry in thing]) and thing[-1] == (0, 0)


def broken_fault(job, words, lengths, table):
    """The first clause by which a paper of a broken text fails, None where it holds."""
    if not is_job(job):
        return 2
    named_ones = named_or_none(job, words)
    if named_ones is None:
        return 3
    if not are_lengths(lengths, len(words)):
        return 4
    waste = waste_by_lengths(job, named_ones, lengths)
    if waste is None:
        return 5
    if not is_table(table, len(words)):
        return 6
    # From the end on each entry is settled by those behind it, so there is one such table alone.
    if table != table_by_words(job, named_ones):
        return 7
    if table[0] != (len(lengths), waste):
        return 8
    return None


def is_keyed_line(case, thing):
    """Tell whether any thing is a keyed line."""
    return is_tuple_of(thing, 2) and are_line_names(case, thing[0]) and thing[1] in WAYS


def are_keyed_lines(case, thing):
    """Tell whether any thing is keyed lines, no more than a paper may have."""
    if not isinstance(thing, list) or len(thing) > MOST_LINES:
        return False
    return all([is_keyed_line(case, line) for line in thing])


def is_ribbon(thing):
    """Tell whether any thing is a ribbon."""
    return isinstance(thing, list) and all([is_row_of_holes(row) for row in thing])


def is_ribbon_of(job, lines, ribbon):
    """Tell whether a ribbon is that of keyed lines, none of them refused."""
    try:
        return ribbon_of(job, lines) == ribbon
    except (Tight, Loose, TooMany):
        return False


def ribbon_fault(job, lines, ribbon):
    """The first clause by which a paper of a ribbon fails, None where it holds."""
    if not is_job(job):
        return 2
    if not are_keyed_lines(job[0], lines):
        return 3
    if not is_ribbon(ribbon):
        return 4
    if not is_ribbon_of(job, lines, ribbon):
        return 5
    return None


def fault_in(paper):
    """The first clause by which any thing fails as a paper, None where it holds."""
    if is_tuple_of(paper, 4) and paper[0] == "ribbon":
        return ribbon_fault(paper[1], paper[2], paper[3])
    if not is_tuple_of(paper, 5):
        return 1
    if paper[0] == "laid":
        return laid_fault(paper[1], paper[2], paper[3], paper[4])
    if paper[0] == "line":
        return line_fault(paper[1], paper[2], paper[3], paper[4])
    if paper[0] == "broken":
        return broken_fault(paper[1], paper[2], paper[3], paper[4])
    return 1


def look(paper):
    """True for a paper that holds; any other thing is refused with NoPaper."""
    at = fault_in(paper)
    if at is not None:
        raise NoPaper(at)
    return True
