"""Texts broken into lines by a table of what the words from each one on come to at best."""

from ribboncast.cases import BLANK, named
from ribboncast.errors import Loose, NoLines, Tight
from ribboncast.keyboard import MOST_BLANKS, MOST_NAMES, natural_width, steps_by, steps_of, widening_of

MOST_WORDS = 40


def words_of(text):
    """The words of a text."""
    # Split, the empty text would be one word without signs.
    if text == "":
        return []
    return text.split(" ")


def named_words(job, words):
    """A tuple (names, natural width) for each word, or NoName."""
    named_ones = [named(job[0], word) for word in words]
    return [(names, natural_width(job, names)) for names in named_ones]


def line_widths_from(job, words, begin):
    """The natural widths of the lines from a word on, of one word, of two, up to the most that a line may have."""
    least = job[2]
    widths = []
    # The first word has no blank ahead of it.
    natural = -least
    many = -1
    for names, width in words[begin:begin + MOST_BLANKS + 1]:
        natural += least + width
        many += 1 + len(names)
        if many > MOST_NAMES:
            break
        widths.append(natural)
    return widths


def waste_by_steps(steps):
    """The waste of a line with these steps."""
    return widening_of(steps) ** 2


def line_waste(job, natural, blanks, last):
    """The waste of a line of a text, be it the last one or another, or None where it can't be one."""
    if last:
        return 0 if natural <= job[4] else None
    try:
        return waste_by_steps(steps_by(job, natural, blanks))
    except (Tight, Loose):
        return None


def choices_from(job, words, table, begin):
    """A tuple (lines, waste, end) for each line from a word on, of what it and the entry behind it come to."""
    choices = []
    for blanks, natural in enumerate(line_widths_from(job, words, begin)):
        end = begin + blanks + 1
        waste = line_waste(job, natural, blanks, end == len(words))
        if waste is not None and table[end] is not None:
            lines_behind, waste_behind = table[end]
            choices.append((1 + lines_behind, waste + waste_behind, end))
    return choices


def table_by_words(job, words):
    """The table of named words."""
    table = [None] * len(words) + [(0, 0)]
    for begin in reversed(range(len(words))):
        choices = choices_from(job, words, table, begin)
        if choices:
            lines, waste, end = min(choices)
            table[begin] = (lines, waste)
    return table


def table_of(job, text):
    """The table of a text, or NoName."""
    return table_by_words(job, named_words(job, words_of(text)))


def line_of_words(words):
    """The names of named words as a line, with a blank between two."""
    line = []
    for at, (names, width) in enumerate(words):
        if at > 0:
            line.append(BLANK)
        line.extend(names)
    return line


def break_text(job, text):
    """The best lines of a text, each as a list of its names, or NoName, NoLines."""
    words = named_words(job, words_of(text))
    table = table_by_words(job, words)
    if table[0] is None:
        raise NoLines("the text can't be broken into lines")
    broken = []
    begin = 0
    while begin < len(words):
        # Of choices that come to the same the least one ends first: it has the fewest words.
        lines, waste, end = min(choices_from(job, words, table, begin))
        broken.append(line_of_words(words[begin:end]))
        begin = end
    return broken


def waste_of(job, broken):
    """The waste of the lines of a text, each a list of names."""
    return sum([waste_by_steps(steps_of(job, names)) for names in broken[:-1]])


def waste_by_lengths(job, words, lengths):
    """The waste of lines of so many named words each, None where one of them can't be one."""
    total = 0
    begin = 0
    for many in lengths:
        widths = line_widths_from(job, words, begin)
        if many > len(widths):
            return None
        waste = line_waste(job, widths[many - 1], many - 1, begin + many == len(words))
        if waste is None:
            return None
        total += waste
        begin += many
    return total
