"""Jobs, and the widths, steps and bell of a line at the keyboard."""

from ribboncast.cases import BLANK, filled_cells, is_case
from ribboncast.errors import Loose, Tight
from ribboncast.holes import LAST_STEP
from ribboncast.kinds import is_tuple_of, is_whole_within

GREATEST_SET = 1000
GREATEST_LEAST = 100000
GREATEST_FINE = 1000
GREATEST_MEASURE = 1000000

MOST_NAMES = 60
MOST_BLANKS = 12

FINE_IN_COARSE = 15
NO_STEPS = (0, 0)


def are_job_numbers(scale, least, fine, measure):
    """Tell whether any four things are the numbers of a job."""
    if not is_whole_within(scale, 1, GREATEST_SET) or not is_whole_within(least, 1, GREATEST_LEAST):
        return False
    return is_whole_within(fine, 1, GREATEST_FINE) and is_whole_within(measure, 1, GREATEST_MEASURE)


def is_job(thing):
    """Tell whether any thing is a job."""
    if not is_tuple_of(thing, 5):
        return False
    case, scale, least, fine, measure = thing
    return is_case(case) and are_job_numbers(scale, least, fine, measure)


def fits_a_line(names):
    """Tell whether names and blanks are no more than a line may have."""
    return len(names) <= MOST_NAMES and names.count(BLANK) <= MOST_BLANKS


def widening_of(steps):
    """How many fine steps a blank is widened by, by these steps."""
    coarse, fine = steps
    return FINE_IN_COARSE * coarse + fine


def name_widths(job, steps):
    """The grains of each name of the case, and those of the blank by steps."""
    case, scale, least, fine, measure = job
    widths = {name: (case[0][row] + cam) * scale for name, column, row, cam in filled_cells(case)}
    # What row the blank lies in tells nothing of its width.
    widths[BLANK] = least + fine * widening_of(steps)
    return widths


def line_width(job, names, steps):
    """The width of a line by steps."""
    widths = name_widths(job, steps)
    return sum([widths[name] for name in names])


def natural_width(job, names):
    """The width of a line with its blanks at their least."""
    return line_width(job, names, NO_STEPS)


def steps_by(job, natural, blanks):
    """The steps of a line of this natural width with so many blanks, or Tight, Loose."""
    case, scale, least, fine, measure = job
    room = measure - natural
    if room < 0:
        raise Tight(-room)
    greatest = widening_of((LAST_STEP, LAST_STEP))
    grains = fine * blanks
    lacking = room - greatest * grains
    # Without blanks there are no grains to come nearer by: then a line may lack nothing.
    if lacking >= max(grains, 1):
        raise Loose(lacking)
    if blanks == 0:
        return NO_STEPS
    return divmod(min(room // grains, greatest), FINE_IN_COARSE)


def steps_of(job, names):
    """The steps of a line, or Tight, Loose."""
    return steps_by(job, natural_width(job, names), names.count(BLANK))


def could_be_kept(job, natural, blanks):
    """Tell whether a line of this natural width with so many blanks has steps."""
    try:
        steps_by(job, natural, blanks)
    except (Tight, Loose):
        return False
    return True


def bell_at(job, names):
    """The least number of names, from the first on, that could be kept as a line, or None."""
    widths = name_widths(job, NO_STEPS)
    natural = 0
    blanks = 0
    # No names at all are never as wide as a measure, so the first number asked is 1.
    for many, name in enumerate(names, start=1):
        natural += widths[name]
        if name == BLANK:
            blanks += 1
        if could_be_kept(job, natural, blanks):
            return many
    return None
