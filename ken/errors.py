"""The refusals."""


class KenError(ValueError):
    """Any refusal."""


class NoText(KenError):
    """A text shows no statement; at is the place, from 0, up to which it could still have done so."""

    def __init__(self, at):
        KenError.__init__(self, f"no statement is shown by this text, seen at place {at}")
        self.at = at


class NoWorlds(KenError):
    """Worlds are not all good ones; world is the number of the first bad one."""

    def __init__(self, world):
        KenError.__init__(self, f"world {world} is no good one")
        self.world = world


class NoRule(KenError):
    """A rule is none, or can't stand so."""


class NoLine(KenError):
    """Lines are not all good ones; line is the number of the first bad one."""

    def __init__(self, line):
        KenError.__init__(self, f"line {line} is no good one")
        self.line = line


class NoKind(KenError):
    """A term has no kind by what is given."""


class NoTurning(KenError):
    """A term has no turning of this number."""


class Large(KenError):
    """Something is, or would become, greater than may be."""


class NotShown(KenError):
    """A goal is not shown from the wishes."""


class Twice(KenError):
    """A statement is a wish already."""


class NoWish(KenError):
    """A statement is no wish."""


class NoRow(KenError):
    """A row is none that the desk knows."""
