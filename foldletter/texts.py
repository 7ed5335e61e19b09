"""What a text is, and which signs it has."""

# Stands as a number, since a text of the program has no such sign either.
PERCENT = 37


def is_text(value):
    """Whether a value, of any kind, is a text."""
    return isinstance(value, str) and all([_is_sign(sign) for sign in value])


def is_line(value):
    """Whether a value, of any kind, is a text without line feeds."""
    return is_text(value) and "\n" not in value


def is_letter(sign):
    """Whether a sign is a letter, great or small."""
    return "a" <= sign <= "z" or "A" <= sign <= "Z"


def is_figure(sign):
    """Whether a sign is a figure."""
    return "0" <= sign <= "9"


def _is_sign(sign):
    return sign == "\n" or (" " <= sign <= "~" and ord(sign) != PERCENT)
