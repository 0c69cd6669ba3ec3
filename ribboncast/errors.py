"""The refusals, one class for each; all stand straight under CastError."""


class CastError(ValueError):
    """Any refusal."""


class NoHoles(CastError):
    """A row that is no sign's; at is its number in a ribbon, None where it stands alone."""

    def __init__(self, at):
        self.at = at


class NoCase(CastError):
    """A thing that is no case."""


class NoName(CastError):
    """A thing that is no name of the case, or a word that has no names there."""


class NoLayout(CastError):
    """Letters that can't be laid out in the size."""


class Tight(CastError):
    """A line above the measure; by is how many grains it is over."""

    def __init__(self, by):
        self.by = by


class Loose(CastError):
    """A line short of the measure; by is how many grains it lacks."""

    def __init__(self, by):
        self.by = by


class NoLines(CastError):
    """A text that can't be broken into lines, or a line that is too long to be one."""


class TooMany(CastError):
    """A ribbon of too many rows."""


class NoEnd(CastError):
    """A sign that can't stand where the caster reads it; at is its row's number."""

    def __init__(self, at):
        self.at = at


class NoMold(CastError):
    """A letter or a blank that its cell doesn't hold; at is its row's number."""

    def __init__(self, at):
        self.at = at


class NoLine(CastError):
    """A number that no line has."""


class NoPaper(CastError):
    """A thing that the looker doesn't let by; at is the first clause that fails."""

    def __init__(self, at):
        self.at = at


class NoText(CastError):
    """A thing that writes nothing of the kind that was to be read."""


class NoRow(CastError):
    """A row that the desk doesn't know."""


class NoStep(CastError):
    """An undo or a redo where there is nothing to go back or forth to."""
