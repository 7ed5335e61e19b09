"""Borders: the lines between a many's parts."""

from foldletter.texts import is_figure, is_letter

SIZE = 40


def border_of(kind):
    """The border that is among a kind's pairs, or None."""
    for name, value in kind[2]:
        if name == "border" and _is_border(value):
            return value
    return None


def border_line(border):
    """The line ahead of each part."""
    return "--" + border


def ending_line(border):
    """The line behind the last part."""
    return "--" + border + "--"


def least_border(lines):
    """The border of a many among whose lines are these."""
    known = set(lines)
    number = 0
    while border_line(f"b{number}") in known or ending_line(f"b{number}") in known:
        number += 1
    return f"b{number}"


def _is_border(text):
    return 1 <= len(text) <= SIZE and all([is_letter(sign) or is_figure(sign) for sign in text])
