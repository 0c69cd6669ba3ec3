"""Sizes, signs, and the rows of holes by which signs are struck."""

from ribboncast.errors import NoHoles
from ribboncast.kinds import is_tuple_of, is_whole_within

LEAST_SIDE = 2
GREATEST_SIDE = 15
LAST_STEP = 14

# Holes of columns lie below FIRST_ROW_HOLE, those of rows and steps from there on,
# those that tell the kind of a sign from FIRST_MARK on.
FIRST_ROW_HOLE = 14
FIRST_MARK = 28
LAST_HOLE = 30

BLANK_MARKS = (28,)
COARSE_MARKS = (28, 29)
FINE_MARKS = (28, 30)
STRUCK_MARKS = (28, 29, 30)
WIDER_MARKS = (29,)
NARROWER_MARKS = (30,)


def is_side(thing):
    """Tell whether a thing may be a size's number of columns or of rows."""
    return is_whole_within(thing, LEAST_SIDE, GREATEST_SIDE)


def is_size(thing):
    """Tell whether any thing is a size."""
    return is_tuple_of(thing, 2) and is_side(thing[0]) and is_side(thing[1])


def is_cam(thing):
    """Tell whether any thing is a cam."""
    return is_whole_within(thing, -1, 1)


def is_place(size, column, row):
    """Tell whether two things are the column and the row of a cell of the size."""
    wide, high = size
    return is_whole_within(column, 0, wide - 1) and is_whole_within(row, 0, high - 1)


def is_letter_sign(size, thing):
    """Tell whether a tuple that begins as a letter goes on as one."""
    return len(thing) == 4 and is_place(size, thing[1], thing[2]) and is_cam(thing[3])


def is_blank_sign(size, thing):
    """Tell whether a tuple that begins as a blank goes on as one."""
    return len(thing) == 3 and is_place(size, thing[1], thing[2])


def is_step_sign(thing):
    """Tell whether a tuple that begins as coarse or fine goes on so."""
    return len(thing) == 2 and is_whole_within(thing[1], 0, LAST_STEP)


def is_sign(size, thing):
    """Tell whether any thing is a sign of the size."""
    if not isinstance(thing, tuple) or len(thing) == 0:
        return False
    kind = thing[0]
    if kind == "letter":
        return is_letter_sign(size, thing)
    if kind == "blank":
        return is_blank_sign(size, thing)
    if kind == "coarse" or kind == "fine":
        return is_step_sign(thing)
    return kind == "struck" and len(thing) == 1


def hole_of(number, last, first_hole):
    """The hole of a number, none for the last one, counted from the first hole on."""
    if number == last:
        return ()
    return (first_hole + number,)


def place_holes(size, column, row):
    """The holes of a column and a row of the size."""
    wide, high = size
    return hole_of(column, wide - 1, 0) + hole_of(row, high - 1, FIRST_ROW_HOLE)


def step_holes(step):
    """The holes of a step."""
    return hole_of(step, LAST_STEP, FIRST_ROW_HOLE)


def cam_marks(cam):
    """The marks of a letter with this cam."""
    if cam == 1:
        return WIDER_MARKS
    if cam == -1:
        return NARROWER_MARKS
    return ()


def strike(size, sign):
    """The row of holes of a sign of the size."""
    kind = sign[0]
    if kind == "letter":
        return place_holes(size, sign[1], sign[2]) + cam_marks(sign[3])
    if kind == "blank":
        return place_holes(size, sign[1], sign[2]) + BLANK_MARKS
    if kind == "coarse":
        return step_holes(sign[1]) + COARSE_MARKS
    if kind == "fine":
        return step_holes(sign[1]) + FINE_MARKS
    return STRUCK_MARKS


def is_row_of_holes(thing):
    """Tell whether any thing is a row of holes, be it a sign's or none's."""
    if not isinstance(thing, tuple):
        return False
    if not all([is_whole_within(hole, 0, LAST_HOLE) for hole in thing]):
        return False
    return all([left < right for left, right in zip(thing, thing[1:])])


def first_between(holes, low, high, last):
    """The number of the first hole from low to below high, the last one where there is none."""
    for hole in holes:
        if low <= hole < high:
            return hole - low
    return last


def likely_sign(size, holes):
    """The only sign that may have been struck so; where none was, whatever comes of it."""
    wide, high = size
    marks = tuple([hole for hole in holes if hole >= FIRST_MARK])
    if marks == STRUCK_MARKS:
        return ("struck",)
    step = first_between(holes, FIRST_ROW_HOLE, FIRST_MARK, LAST_STEP)
    if marks == COARSE_MARKS:
        return ("coarse", step)
    if marks == FINE_MARKS:
        return ("fine", step)
    column = first_between(holes, 0, FIRST_ROW_HOLE, wide - 1)
    row = first_between(holes, FIRST_ROW_HOLE, FIRST_MARK, high - 1)
    if marks == BLANK_MARKS:
        return ("blank", column, row)
    if marks == WIDER_MARKS:
        return ("letter", column, row, 1)
    if marks == NARROWER_MARKS:
        return ("letter", column, row, -1)
    return ("letter", column, row, 0)


def read_holes(size, thing):
    """The sign of the size that is struck as any thing, or NoHoles."""
    # A row with a truth in it would be equal to one with numbers: it is sifted out first.
    if not is_row_of_holes(thing):
        raise NoHoles(None)
    sign = likely_sign(size, thing)
    # Struck again it shows whether there were holes too many, or a last one's.
    if not is_sign(size, sign) or strike(size, sign) != thing:
        raise NoHoles(None)
    return sign
