"""Cases of molds, their names, and how a word is named by them."""

from ribboncast.errors import NoCase, NoName
from ribboncast.holes import is_cam, is_size
from ribboncast.kinds import is_tuple_of, is_whole_within

BLANK = " "
LONGEST_NAME = 3
GREATEST_UNITS = 30


def is_name(thing):
    """Tell whether any thing is a name, be it of a case or not."""
    if not isinstance(thing, str) or not 1 <= len(thing) <= LONGEST_NAME:
        return False
    return all(["a" <= letter <= "z" for letter in thing])


def is_cell(thing):
    """Tell whether any thing may lie in a case as one of its cells."""
    if thing is None:
        return True
    if not is_tuple_of(thing, 2):
        return False
    name, cam = thing
    if not is_cam(cam):
        return False
    return is_name(name) or (name == BLANK and cam == 0)


def are_units(thing):
    """Tell whether any thing is a tuple of units, however many."""
    if not isinstance(thing, tuple):
        return False
    return all([is_whole_within(units, 1, GREATEST_UNITS) for units in thing])


def is_row_of_cells(thing, wide):
    """Tell whether any thing is a tuple of so many cells."""
    return is_tuple_of(thing, wide) and all([is_cell(cell) for cell in thing])


def are_cells(thing, high):
    """Tell whether any thing is as many rows of cells, all as wide as the first, as make a size."""
    if not is_tuple_of(thing, high) or high == 0 or not isinstance(thing[0], tuple):
        return False
    wide = len(thing[0])
    return is_size((wide, high)) and all([is_row_of_cells(row, wide) for row in thing])


def filled_cells(case):
    """A tuple (name, column, row, cam) for each cell that isn't None, the blank's too."""
    return [
        (cell[0], column, row, cell[1])
        for row, cells in enumerate(case[1])
        for column, cell in enumerate(cells)
        if cell is not None
    ]


def are_names_sound(case):
    """Tell whether the blank is there, no name stands twice and none has 0 units."""
    filled = filled_cells(case)
    names = [name for name, column, row, cam in filled]
    if BLANK not in names or len(set(names)) != len(names):
        return False
    return all([case[0][row] + cam != 0 for name, column, row, cam in filled])


def is_case(thing):
    """Tell whether any thing is a case."""
    if not is_tuple_of(thing, 2) or not are_units(thing[0]):
        return False
    return are_cells(thing[1], len(thing[0])) and are_names_sound(thing)


def vet_case(thing):
    """True for a case; any other thing is refused with NoCase."""
    if not is_case(thing):
        raise NoCase("this is no case")
    return True


def size_of(case):
    """The size of a case."""
    return (len(case[1][0]), len(case[0]))


def names_in(case):
    """The names of a case, sorted, without the blank."""
    return sorted([name for name, column, row, cam in filled_cells(case) if name != BLANK])


def filled_cell_of(case, thing):
    """The tuple (name, column, row, cam) of a name or the blank, or NoName for any other thing."""
    for cell in filled_cells(case):
        if cell[0] == thing:
            return cell
    raise NoName("this is no name of the case")


def place_of(case, thing):
    """The column and the row of a name or the blank, or NoName for any other thing."""
    name, column, row, cam = filled_cell_of(case, thing)
    return (column, row)


def units_of(case, thing):
    """The units of a name or the blank, or NoName for any other thing."""
    name, column, row, cam = filled_cell_of(case, thing)
    return case[0][row] + cam


def sign_of_filled(filled):
    """The sign of a filled cell, a tuple (name, column, row, cam)."""
    name, column, row, cam = filled
    if name == BLANK:
        return ("blank", column, row)
    return ("letter", column, row, cam)


def sign_of(case, thing):
    """The sign of a name or the blank, or NoName for any other thing."""
    return sign_of_filled(filled_cell_of(case, thing))


def longest_name_at(names, word, at):
    """The longest name, a key of names, that stands in the word at a place, or NoName."""
    for many in range(LONGEST_NAME, 0, -1):
        name = word[at:at + many]
        if name in names:
            return name
    raise NoName("no name of the case stands here")


def named(case, word):
    """The names of a word, at each place the longest that stands there, or NoName."""
    names = {name: True for name in names_in(case)}
    told = []
    at = 0
    while at < len(word):
        name = longest_name_at(names, word, at)
        told.append(name)
        at += len(name)
    return told
