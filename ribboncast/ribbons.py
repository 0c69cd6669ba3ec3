"""Ribbons: the rows of holes of keyed lines, one line behind another."""

from ribboncast.cases import filled_cells, sign_of_filled, size_of
from ribboncast.errors import Tight, TooMany
from ribboncast.holes import strike
from ribboncast.keyboard import natural_width, steps_of

MOST_ROWS = 400


def holes_by_name(case):
    """The row of holes of each name of a case, and that of the blank."""
    size = size_of(case)
    return {filled[0]: strike(size, sign_of_filled(filled)) for filled in filled_cells(case)}


def signs_behind(job, names, way):
    """The signs that are struck behind the names of a line that is keyed so, or Tight, Loose."""
    if way == "struck":
        return [("struck",)]
    if way == "kept":
        coarse, fine = steps_of(job, names)
        return [("coarse", coarse), ("fine", fine)]
    over = natural_width(job, names) - job[4]
    if over > 0:
        raise Tight(over)
    return [("coarse", 0), ("fine", 0)]


def rows_by_names(job, line, holes):
    """The rows of holes of a keyed line, by those of each name, or Tight, Loose."""
    names, way = line
    size = size_of(job[0])
    behind = [strike(size, sign) for sign in signs_behind(job, names, way)]
    return [holes[name] for name in names] + behind


def rows_of(job, line):
    """The rows of holes of a keyed line, or Tight, Loose."""
    return rows_by_names(job, line, holes_by_name(job[0]))


def refuse_too_many(ribbon):
    """Refuse a ribbon of too many rows with TooMany."""
    if len(ribbon) > MOST_ROWS:
        raise TooMany("the ribbon has too many rows")


def ribbon_of(job, lines):
    """The ribbon of keyed lines, or Tight, Loose of the first line that is refused, or TooMany."""
    holes = holes_by_name(job[0])
    ribbon = []
    for line in lines:
        ribbon.extend(rows_by_names(job, line, holes))
    # Only behind the last line, as any line that is refused comes ahead of too many rows.
    refuse_too_many(ribbon)
    return ribbon
