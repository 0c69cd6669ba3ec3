"""Letters laid out in a case by their widths, with the fewest cams that aren't 0."""

from ribboncast.cases import BLANK, GREATEST_UNITS, filled_cells
from ribboncast.errors import NoLayout


def cams_in(case):
    """How many cams of a case aren't 0."""
    return len([name for name, column, row, cam in filled_cells(case) if cam != 0])


def names_by_width(letters):
    """The names of letters, as a list for each width that there is."""
    names = {}
    for name, width in letters:
        names.setdefault(width, []).append(name)
    return names


def rows_for(many, wide):
    """How many rows so many letters take at least."""
    return (many + wide - 1) // wide


def with_rows_of(units, ways, names, size):
    """The best ways with rows of these units, too, out of the best ones with rows of fewer units.

    A lift tells how letters lie across the border between two units: above 0 so many of the lower width lie in
    rows of the upper units, below 0 so many of the upper width in rows of the lower ones. Never both: one of each
    kind could change places, and would have no cam. Ways are kept by the rows that they take and their last lift,
    which is all that those of more units hang on: each as how many cams it has, and its lifts from the least on.
    """
    wide, high = size
    own = len(names.get(units, []))
    upper = len(names.get(units + 1, []))
    best = {}
    for (rows, came), (cams, lifts) in ways.items():
        # Those of this width that lie in lower rows can't lie in upper ones.
        left = own + min(came, 0)
        for lift in range(-upper, left + 1):
            taken = rows + rows_for(own + came - lift, wide)
            if taken > high:
                continue
            way = (cams + abs(lift), lifts + (lift,))
            if (taken, lift) not in best or way < best[(taken, lift)]:
                best[(taken, lift)] = way
    return best


def best_lifts(size, names):
    """The lifts of a way with the fewest cams, the one at 0 units ahead, or NoLayout."""
    ways = {(0, 0): (0, (0,))}
    for units in range(1, GREATEST_UNITS + 1):
        ways = with_rows_of(units, ways, names, size)
    # There are no rows above the last ones: none may lie there, and all of a width beyond lie below.
    last = -len(names.get(GREATEST_UNITS + 1, []))
    whole = [way for (taken, lift), way in ways.items() if lift == last]
    if not whole:
        raise NoLayout("the rows are too few for these widths")
    cams, lifts = min(whole)
    return lifts


def cells_with_units(units, names, came, lift):
    """The cells of the letters that lie in rows of these units, by the lifts below and above."""
    lower = names.get(units - 1, [])
    own = names.get(units, [])
    upper = names.get(units + 1, [])
    cells = [(name, -1) for name in lower[len(lower) - max(came, 0):]]
    cells.extend([(name, 0) for name in own[max(-came, 0):len(own) - max(lift, 0)]])
    cells.extend([(name, 1) for name in upper[:max(-lift, 0)]])
    return cells


def case_by_lifts(size, names, lifts):
    """The case in which letters lie by these lifts."""
    wide, high = size
    rows = []
    cells = []
    for units in range(1, GREATEST_UNITS + 1):
        filled = cells_with_units(units, names, lifts[units - 1], lifts[units])
        many = rows_for(len(filled), wide)
        rows.extend([units] * many)
        cells.extend(filled + [None] * (many * wide - len(filled)))
    # What units the rows have that no letter needs is all one.
    rows.extend([1] * (high - len(rows)))
    cells.extend([None] * (wide * high - len(cells)))
    cells[cells.index(None)] = (BLANK, 0)
    return (tuple(rows), tuple([tuple(cells[wide * row:wide * row + wide]) for row in range(high)]))


def lay_out(size, letters):
    """A case of the size with just these letters and the fewest cams that aren't 0, or NoLayout."""
    wide, high = size
    if len(letters) >= wide * high:
        raise NoLayout("there is no cell for each letter and one for the blank")
    names = names_by_width(letters)
    if not all([1 <= width <= GREATEST_UNITS + 1 for width in names]):
        raise NoLayout("no row can give a letter this width")
    return case_by_lifts(size, names, best_lifts(size, names))
