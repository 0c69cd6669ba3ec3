"""Single lines of a ribbon: where they lie, mended, and cast anew."""

from ribboncast.caster import read_lines
from ribboncast.errors import NoLine
from ribboncast.ribbons import refuse_too_many, rows_of


def refuse_no_line(number, many):
    """Refuse a number that none of so many lines has with NoLine."""
    if not 0 <= number < many:
        raise NoLine("no line has this number")


def line_ranges(job, ribbon):
    """A tuple (begin, end) for each line of where its rows begin and where those behind it do.

    Refused as the caster does.
    """
    return [(begin, end) for begin, end, pieces in reversed(read_lines(job, ribbon))]


def mend_ribbon(job, ribbon, k, line):
    """The ribbon with a keyed line in the place of line k.

    Refused as the caster does, then with NoLine, then as the keyed line is, then with TooMany.
    """
    ranges = line_ranges(job, ribbon)
    refuse_no_line(k, len(ranges))
    begin, end = ranges[k]
    mended = ribbon[:begin] + rows_of(job, line) + ribbon[end:]
    refuse_too_many(mended)
    return mended


def cast_anew(job, ribbon, numbers):
    """The galley of the lines with these numbers, each once.

    Refused as the caster does, then with NoLine.
    """
    # Turned about, as the numbers go by the order keyed.
    lines = read_lines(job, ribbon)[::-1]
    for number in numbers:
        refuse_no_line(number, len(lines))
    wanted = [lines[number] for number in reversed(sorted(set(numbers)))]
    return [pieces for begin, end, pieces in wanted if pieces is not None]
