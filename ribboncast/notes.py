"""Ribbons, cases and galleys written as texts, and read back."""

from ribboncast.cases import BLANK, is_case
from ribboncast.errors import NoText
from ribboncast.holes import is_row_of_holes

NOTHING = "none"
EMPTY = "-"
SHOWN_BLANK = "_"
WIDER = "+"
NARROWER = "-"

# Neither holes nor units go beyond 30.
MOST_FIGURES = 2


def slashed(texts):
    """Texts with / between two, none where there are none."""
    if not texts:
        return NOTHING
    return "/".join(texts)


def whole_read(text, most):
    """The whole number that a text writes in at most so many figures, None where it writes none."""
    if not 1 <= len(text) <= most or not all(["0" <= figure <= "9" for figure in text]):
        return None
    if len(text) > 1 and text[0] == "0":
        return None
    return int(text)


def row_shown(row):
    """A row of holes as a text."""
    if not row:
        return EMPTY
    return ".".join([str(hole) for hole in row])


def ribbon_shown(ribbon):
    """A ribbon as a text."""
    return slashed([row_shown(row) for row in ribbon])


def row_read(text):
    """The row of holes that a text writes, with None among its holes where it writes none."""
    if text == EMPTY:
        return ()
    return tuple([whole_read(word, MOST_FIGURES) for word in text.split(".")])


def ribbon_read(thing):
    """The ribbon that any thing writes, or NoText."""
    if not isinstance(thing, str):
        raise NoText("this is no text")
    if thing == NOTHING:
        return []
    ribbon = [row_read(row) for row in thing.split("/")]
    if not all([is_row_of_holes(row) for row in ribbon]):
        raise NoText("this text writes no ribbon")
    return ribbon


def cell_shown(cell):
    """A cell as a text."""
    if cell is None:
        return EMPTY
    name, cam = cell
    if name == BLANK:
        return SHOWN_BLANK
    if cam == 1:
        return name + WIDER
    if cam == -1:
        return name + NARROWER
    return name


def case_shown(case):
    """A case as a text."""
    units, cells = case
    rows = [[str(number)] + [cell_shown(cell) for cell in row] for number, row in zip(units, cells)]
    return slashed([" ".join(row) for row in rows])


def cell_read(text):
    """The cell that a text writes; where it writes none, what is none."""
    if text == EMPTY:
        return None
    if text == SHOWN_BLANK:
        return (BLANK, 0)
    if text.endswith(WIDER):
        return (text[:-1], 1)
    if text.endswith(NARROWER):
        return (text[:-1], -1)
    return (text, 0)


def case_read(thing):
    """The case that any thing writes, or NoText."""
    if not isinstance(thing, str):
        raise NoText("this is no text")
    rows = [row.split(" ") for row in thing.split("/")]
    units = tuple([whole_read(row[0], MOST_FIGURES) for row in rows])
    cells = tuple([tuple([cell_read(word) for word in row[1:]]) for row in rows])
    if not is_case((units, cells)):
        raise NoText("this text writes no case")
    return (units, cells)


def piece_shown(piece):
    """A piece as a text."""
    name, width = piece
    shown = SHOWN_BLANK if name == BLANK else name
    return f"{width}:{shown}"


def line_shown(line):
    """A cast line as a text."""
    if not line:
        return EMPTY
    return " ".join([piece_shown(piece) for piece in line])


def galley_shown(galley):
    """A galley as a text."""
    return slashed([line_shown(line) for line in galley])
