"""Things that many tests hand in, and what the document says, gone through one by one."""

import itertools

from ribboncast.cases import named
from ribboncast.errors import CastError

ODD_THINGS = [
    None, True, False, 0, 1, -1, 2, 14, 15, 999999999999, "", " ", "a", "abc", "letter", "struck",
    [], (), [[]], ((),), [()], (None,), (True,), (False,), [None], ("",), ("a",), (" ",),
    ("letter",), ("blank",), ("coarse",), ("fine",), ["struck"], ("struck", 0), ("struck", None),
    (1, 2, 3), (((((((0,),),),),),),), [[[[[[[[0]]]]]]]], "x" * 6000, [0] * 3999, (0,) * 3999,
]

# Units: a 5, b 6, c 4, d 9, e 10, f 8, ff 18, ffi 17, i 1; the blank's row has 2.
CASE = (
    (5, 9, 18, 2),
    (
        (("a", 0), ("b", 1), ("c", -1)),
        (("d", 0), ("e", 1), ("f", -1)),
        (("ff", 0), None, ("ffi", -1)),
        (None, (" ", 0), ("i", -1)),
    ),
)

# One unit for a, two for b, three for c, four for abc.
PLAIN_CASE = ((1, 2, 3, 4), ((("a", 0), (" ", 0)), (("b", 0), None), (("c", 0), None), (("abc", 0), None)))

ALL_STEPS = [(coarse, fine) for coarse in range(15) for fine in range(15)]


def all_signs(size):
    wide, high = size
    signs = [("struck",)]
    for step in range(15):
        signs.append(("coarse", step))
        signs.append(("fine", step))
    for column in range(wide):
        for row in range(high):
            signs.append(("blank", column, row))
            for cam in (-1, 0, 1):
                signs.append(("letter", column, row, cam))
    return signs


def holes_by_the_document(size, sign):
    """Point 6, clause by clause, reckoned otherwise than in the program."""
    wide, high = size
    holes = []
    if sign[0] in ("letter", "blank"):
        holes += [c for c in range(wide - 1) if c == sign[1]]
        holes += [14 + r for r in range(high - 1) if r == sign[2]]
    if sign[0] in ("coarse", "fine"):
        holes += [14 + s for s in range(14) if s == sign[1]]
    if sign[0] in ("blank", "coarse", "fine", "struck"):
        holes.append(28)
    if sign[0] in ("coarse", "struck") or sign[0] == "letter" and sign[3] == 1:
        holes.append(29)
    if sign[0] in ("fine", "struck") or sign[0] == "letter" and sign[3] == -1:
        holes.append(30)
    return tuple(holes)


def told(call, *things):
    """What a call tells, or a tuple of the refusal's name and its value at or by, None where it has none."""
    try:
        return call(*things)
    except CastError as e:
        return (e.__class__.__name__, getattr(e, "at", getattr(e, "by", None)))


def letters_width_by_the_document(job, names):
    """Point 12, of all names but the blanks, cell by cell."""
    (units, cells), grains, least, fine, measure = job
    known = {cell[0]: units[row] + cell[1] for row in range(len(units)) for cell in cells[row] if cell}
    return sum(known[name] * grains for name in names if name != " ")


def blank_width_by_the_document(job, steps):
    """Point 12, of a blank."""
    case, grains, least, fine, measure = job
    coarse_step, fine_step = steps
    return least + fine * 15 * coarse_step + fine * fine_step


def width_by_the_document(job, names, steps):
    """Point 12, of a line."""
    return letters_width_by_the_document(job, names) + names.count(" ") * blank_width_by_the_document(job, steps)


def steps_by_the_document(job, names):
    """Point 13, by all pairs of steps: the steps, or a tuple of the refusal's name and its value."""
    fine, measure = job[3], job[4]
    letters = letters_width_by_the_document(job, names)
    blanks = names.count(" ")
    widths = [(letters + blanks * blank_width_by_the_document(job, steps), steps) for steps in ALL_STEPS]
    natural = widths[0][0]
    if natural > measure:
        return ("Tight", natural - measure)
    greatest = max(width for width, steps in widths if width <= measure)
    short = measure - widths[-1][0]
    if blanks > 0 and short >= fine * blanks or blanks == 0 and natural != measure:
        return ("Loose", short)
    return min(steps for width, steps in widths if width == greatest)


def joined(words):
    """The line of some named words."""
    line = []
    for names in words:
        line += [" "] * (line != []) + names
    return line


class AllWays:
    """Points 15 and 16, by all ways to break, for few words."""

    def __init__(self, job, text):
        self.job = job
        self.words = [named(job[0], word) for word in text.split(" ")] if text else []
        self.known = {}

    def waste_of_line(self, begin, end):
        """The waste of the line of these words, None where it can't be one."""
        if (begin, end) not in self.known:
            self.known[(begin, end)] = self.reckoned_waste(joined(self.words[begin:end]), end == len(self.words))
        return self.known[(begin, end)]

    def reckoned_waste(self, names, last):
        if len(names) > 60 or names.count(" ") > 12:
            return None
        if last:
            return 0 if width_by_the_document(self.job, names, (0, 0)) <= self.job[4] else None
        told = steps_by_the_document(self.job, names)
        return None if isinstance(told[0], str) else (15 * told[0] + told[1]) ** 2

    def ways_from(self, first):
        """A tuple (lines, waste, words of each line) for each way to break the words from one on."""
        many = len(self.words)
        if first == many:
            return [(0, 0, ())]
        ways = []
        for cuts in itertools.product([False, True], repeat=many - first - 1):
            ends = [first + 1 + at for at, cut in enumerate(cuts) if cut] + [many]
            begins = [first] + ends[:-1]
            wastes = [self.waste_of_line(begin, end) for begin, end in zip(begins, ends)]
            if None not in wastes:
                lengths = tuple([end - begin for begin, end in zip(begins, ends)])
                ways.append((len(ends), sum(wastes), lengths))
        return ways

    def table(self):
        return [min([way[:2] for way in self.ways_from(first)], default=None) for first in range(len(self.words) + 1)]

    def broken(self):
        """The lines of the best way, or None."""
        ways = self.ways_from(0)
        if not ways:
            return None
        lines = []
        begin = 0
        for many in min(ways)[2]:
            lines.append(joined(self.words[begin:begin + many]))
            begin += many
        return lines


def cells_by_the_document(case):
    """Point 8: a tuple (name, column, row, cam) for each cell that isn't None."""
    return [(cell[0], column, row, cell[1]) for row in range(len(case[1])) for column, cell in enumerate(case[1][row])
            if cell]


def sign_by_the_document(case, name):
    """Point 8, of a name or the blank."""
    for known, column, row, cam in cells_by_the_document(case):
        if known == name:
            return ("blank", column, row) if name == " " else ("letter", column, row, cam)
    raise AssertionError(name)


def rows_by_the_document(job, line):
    """Point 17, hole by hole: the rows, or a tuple of the refusal's name and its value."""
    names, way = line
    size = (len(job[0][1][0]), len(job[0][0]))
    signs = [sign_by_the_document(job[0], name) for name in names]
    if way == "struck":
        signs.append(("struck",))
    else:
        steps = steps_by_the_document(job, names) if way == "kept" else (0, 0)
        over = width_by_the_document(job, names, (0, 0)) - job[4]
        if steps[0] in ("Tight", "Loose"):
            return steps
        if over > 0:
            return ("Tight", over)
        signs += [("coarse", steps[0]), ("fine", steps[1])]
    return [holes_by_the_document(size, sign) for sign in signs]


def ribbon_by_the_document(job, lines):
    """Point 17: the ribbon, or a tuple of the refusal's name and its value."""
    ribbon = []
    for line in lines:
        rows = rows_by_the_document(job, line)
        if isinstance(rows, tuple):
            return rows
        ribbon += rows
    return ("TooMany", None) if len(ribbon) > 400 else ribbon


class ReadThrough:
    """Point 18, row by row: what is due at each is kept as one of the words end, coarse, letters."""

    def __init__(self, job, ribbon):
        self.job = job
        self.case = job[0]
        self.size = (len(self.case[1][0]), len(self.case[0]))
        # Each line in the order of casting: [begin, end, pieces], None for those of a struck one.
        self.lines = []
        self.steps = None
        self.due = "end"
        self.refused = self.read_all(ribbon)

    def read_all(self, ribbon):
        known = {holes_by_the_document(self.size, sign): sign for sign in all_signs(self.size)}
        for at in reversed(range(len(ribbon))):
            sign = known.get(ribbon[at])
            wrong = "NoHoles" if sign is None else self.read_sign(at, sign)
            if wrong:
                return (wrong, at)
        return ("NoEnd", 0) if self.due == "coarse" else None

    def read_sign(self, at, sign):
        kind = sign[0]
        if self.due == "coarse":
            if kind != "coarse":
                return "NoEnd"
            self.steps = (sign[1], self.steps)
            self.due = "letters"
        elif kind == "struck":
            self.lines.append([at, at + 1, None])
            self.due = "letters"
            return None
        elif kind == "fine":
            self.lines.append([at, at + 1, []])
            self.steps = sign[1]
            self.due = "coarse"
            return None
        elif kind == "coarse" or self.due == "end":
            return "NoEnd"
        elif self.lines[-1][2] is not None:
            name = self.name_of(sign)
            if name is None:
                return "NoMold"
            width = width_by_the_document(self.job, [name], self.steps)
            self.lines[-1][2].append((name, width))
        self.lines[-1][0] = at
        return None

    def name_of(self, sign):
        cell = self.case[1][sign[2]][sign[1]]
        if sign[0] == "blank":
            return " " if cell == (" ", 0) else None
        if cell is None or cell[0] == " " or cell[1] != sign[3]:
            return None
        return cell[0]

    def galley(self):
        return self.refused or [pieces for begin, end, pieces in self.lines if pieces is not None]

    def ranges(self):
        return self.refused or [(begin, end) for begin, end, pieces in self.lines[::-1]]

    def anew(self, numbers):
        if self.refused:
            return self.refused
        keyed = self.lines[::-1]
        if [number for number in numbers if number not in range(len(keyed))]:
            return ("NoLine", None)
        return [keyed[at][2] for at in reversed(range(len(keyed))) if at in numbers and keyed[at][2] is not None]

    def mended(self, ribbon, k, line):
        if self.refused:
            return self.refused
        if k not in range(len(self.lines)):
            return ("NoLine", None)
        rows = rows_by_the_document(self.job, line)
        if isinstance(rows, tuple):
            return rows
        begin, end = self.ranges()[k]
        mended = list(ribbon)
        mended[begin:end] = rows
        return ("TooMany", None) if len(mended) > 400 else mended


def chance_names(chance, case, most):
    """Some names and blanks of a case, the blanks at most twelve."""
    known = [name for name, column, row, cam in cells_by_the_document(case)]
    names = []
    for at in range(chance.randint(0, most)):
        name = chance.choice(known + [" "] * 2)
        names.append(name if names.count(" ") < 12 or name != " " else known[known[0] == " "])
    return names


def chance_lines(chance, job, most):
    """Some keyed lines that are not refused."""
    lines = []
    for at in range(chance.randint(0, most)):
        line = (chance_names(chance, job[0], 8), chance.choice(["kept", "kept", "open", "struck"]))
        if isinstance(rows_by_the_document(job, line), list):
            lines.append(line)
    return lines


def chance_row(chance, size):
    """Any row of holes: mostly that of a sign."""
    if chance.random() < 0.2:
        return tuple(sorted(chance.sample(range(31), chance.randint(0, 4))))
    return holes_by_the_document(size, chance.choice(all_signs(size)))


def put_otherwise(chance, size, ribbon):
    """A ribbon like this one, with some rows left out, put in, put otherwise, exchanged."""
    changed = list(ribbon)
    for change in range(chance.randint(1, 3)):
        at = chance.randint(0, len(changed))
        how = chance.choice(["in", "out", "otherwise", "exchanged"])
        if how == "in" or not changed:
            changed.insert(at, chance_row(chance, size))
        elif how == "out":
            del changed[at - 1]
        elif how == "otherwise":
            changed[at - 1] = chance_row(chance, size)
        else:
            other = chance.randrange(len(changed))
            changed[at - 1], changed[other] = changed[other], changed[at - 1]
    return changed
