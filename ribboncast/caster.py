"""The caster, which reads a ribbon from its end, and the pull of what it casts."""

from ribboncast.cases import size_of
from ribboncast.errors import NoEnd, NoHoles, NoMold
from ribboncast.holes import read_holes
from ribboncast.keyboard import name_widths
from ribboncast.ribbons import holes_by_name


def sign_at(size, ribbon, at):
    """The sign of a row of the ribbon, or NoHoles."""
    try:
        return read_holes(size, ribbon[at])
    except NoHoles:
        raise NoHoles(at) from None


def read_end(size, ribbon, end):
    """Read the rows that end a line.

    Told are the line's steps, None where it is struck out, and the number of the first of the rows read.
    """
    at = end - 1
    last = sign_at(size, ribbon, at)
    if last[0] == "struck":
        return (None, at)
    if last[0] != "fine":
        raise NoEnd(at)
    # Where there is no row ahead of a fine one, the fine one itself is told: its number is 0.
    if at == 0:
        raise NoEnd(at)
    at -= 1
    ahead = sign_at(size, ribbon, at)
    if ahead[0] != "coarse":
        raise NoEnd(at)
    return ((ahead[1], last[1]), at)


def letters_begin(size, ribbon, end, molds):
    """The number of the first of a line's letters and blanks, which end here, or NoHoles, NoEnd, NoMold.

    Molds has the rows of holes that can be cast, None where the line is struck out.
    """
    at = end
    while at > 0:
        kind = sign_at(size, ribbon, at - 1)[0]
        if kind == "fine" or kind == "struck":
            break
        at -= 1
        if kind == "coarse":
            raise NoEnd(at)
        if molds is not None and ribbon[at] not in molds:
            raise NoMold(at)
    return at


def pieces_of(job, rows, molds, steps):
    """The pieces of a line's letters and blanks by its steps, in the order of casting."""
    widths = name_widths(job, steps)
    names = [molds[row] for row in reversed(rows)]
    return [(name, widths[name]) for name in names]


def read_line(job, ribbon, end, molds):
    """Read the line whose rows end here.

    Told is a tuple (begin, end, pieces) of where its rows begin and end, and its pieces, None where it is struck out.
    """
    size = size_of(job[0])
    steps, letters_end = read_end(size, ribbon, end)
    if steps is None:
        return (letters_begin(size, ribbon, letters_end, None), end, None)
    begin = letters_begin(size, ribbon, letters_end, molds)
    return (begin, end, pieces_of(job, ribbon[begin:letters_end], molds, steps))


def read_lines(job, ribbon):
    """What is told of each line of a ribbon, struck ones too, in the order of casting, or NoHoles, NoEnd, NoMold."""
    molds = {holes: name for name, holes in holes_by_name(job[0]).items()}
    lines = []
    end = len(ribbon)
    while end > 0:
        line = read_line(job, ribbon, end, molds)
        lines.append(line)
        end = line[0]
    return lines


def cast_ribbon(job, ribbon):
    """The galley of a ribbon, or NoHoles, NoEnd, NoMold."""
    return [pieces for begin, end, pieces in read_lines(job, ribbon) if pieces is not None]


def pull_of(galley):
    """The texts of a galley's lines, first keyed first."""
    return ["".join([name for name, width in reversed(line)]) for line in reversed(galley)]
