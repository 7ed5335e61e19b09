"""The refusals, all of them straight under LetterError."""


class LetterError(ValueError):
    """Any refusal."""

    def __init__(self, why=""):
        # Python takes an error's message by position alone, so that an error
        # made by name would be without one.
        ValueError.__init__(self, why)


class NoHead(LetterError):
    """What is no head; line is the number of the line that begins it."""

    def __init__(self, why, line=0):
        LetterError.__init__(self, why)
        self.line = line


class NoDate(LetterError):
    """What is no date."""


class NoOctets(LetterError):
    """What is no list of octets."""


class NoPart(LetterError):
    """What is no part."""


class NoPath(LetterError):
    """What is no path of a letter."""


class NoPlace(LetterError):
    """What is no place."""


class NoText(LetterError):
    """What is no text."""


class NoChange(LetterError):
    """What is no change, or not within its text."""


class NoBorder(LetterError):
    """A change that would put in a border line."""


class NoSeal(LetterError):
    """What is no seal, or can't be sealed by."""


class NoWords(LetterError):
    """What can't be cut to words; at is the place where that begins."""

    def __init__(self, why, at=0):
        LetterError.__init__(self, why)
        self.at = at


class NoSaying(LetterError):
    """What tells no saying; at is how many octets tell one."""

    def __init__(self, why, at=0):
        LetterError.__init__(self, why)
        self.at = at


class NoAddress(LetterError):
    """What is no list of addresses; at is the place of what can't be read."""

    def __init__(self, why, at=0):
        LetterError.__init__(self, why)
        self.at = at


class NoKind(LetterError):
    """What is no kind; at is the place of what can't be read."""

    def __init__(self, why, at=0):
        LetterError.__init__(self, why)
        self.at = at


class NoCode(LetterError):
    """What no code reads or writes; at is the place of what can't be read."""

    def __init__(self, why, at=0):
        LetterError.__init__(self, why)
        self.at = at


class NoLetter(LetterError):
    """What is no sound letter; at is the place of its first step."""

    def __init__(self, why, at=0):
        LetterError.__init__(self, why)
        self.at = at
