"""Things that many tests hand in, and what the document says, gone through one by one."""

ODD_THINGS = [
    None, True, False, 0, 1, -1, 2, 14, 15, 999999999999, "", " ", "a", "abc", "letter", "struck",
    [], (), [[]], ((),), [()], (None,), (True,), (False,), [None], ("",), ("a",), (" ",),
    ("letter",), ("blank",), ("coarse",), ("fine",), ["struck"], ("struck", 0), ("struck", None),
    (1, 2, 3), (((((((0,),),),),),),), [[[[[[[[0]]]]]]]], "x" * 6000, [0] * 3999, (0,) * 3999,
]

# Units: a 5, b 6, c 4, d 9, e 10, f 8, ff 18, ffi 17, i 1; the blank's row has 2.
CASE = (
    (5, 9, 18, 2),
    (
        (("a", 0), ("b", 1), ("c", -1)),
        (("d", 0), ("e", 1), ("f", -1)),
        (("ff", 0), None, ("ffi", -1)),
        (None, (" ", 0), ("i", -1)),
    ),
)

# One unit for a, two for b, three for c, four for abc.
PLAIN_CASE = ((1, 2, 3, 4), ((("a", 0), (" ", 0)), (("b", 0), None), (("c", 0), None), (("abc", 0), None)))

ALL_STEPS = [(coarse, fine) for coarse in range(15) for fine in range(15)]


def letters_width_by_the_document(job, names):
    """Point 12, of all names but the blanks, cell by cell."""
    (units, cells), grains, least, fine, measure = job
    known = {cell[0]: units[row] + cell[1] for row in range(len(units)) for cell in cells[row] if cell}
    return sum(known[name] * grains for name in names if name != " ")


def blank_width_by_the_document(job, steps):
    """Point 12, of a blank."""
    case, grains, least, fine, measure = job
    coarse_step, fine_step = steps
    return least + fine * 15 * coarse_step + fine * fine_step


def width_by_the_document(job, names, steps):
    """Point 12, of a line."""
    return letters_width_by_the_document(job, names) + names.count(" ") * blank_width_by_the_document(job, steps)


def steps_by_the_document(job, names):
    """Point 13, by all pairs of steps: the steps, or a tuple of the refusal's name and its value."""
    fine, measure = job[3], job[4]
    letters = letters_width_by_the_document(job, names)
    blanks = names.count(" ")
    widths = [(letters + blanks * blank_width_by_the_document(job, steps), steps) for steps in ALL_STEPS]
    natural = widths[0][0]
    if natural > measure:
        return ("Tight", natural - measure)
    greatest = max(width for width, steps in widths if width <= measure)
    short = measure - widths[-1][0]
    if blanks > 0 and short >= fine * blanks or blanks == 0 and natural != measure:
        return ("Loose", short)
    return min(steps for width, steps in widths if width == greatest)
