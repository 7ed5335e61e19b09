"""Torn letters, mended by steps."""

from foldletter.errors import NoText
from foldletter.sheets import fed, fixes_of, sheets_of, steps_of
from foldletter.texts import is_text


def steps(text):
    """The steps by which a text is mended, tuples (word, at)."""
    _check_text(text)
    return steps_of(text, sheets_of(text))


def mended(text):
    """The text when its steps are done."""
    _check_text(text)
    whole = fed(text)
    kept = []
    place = 0
    for _, begin, end, put in fixes_of(sheets_of(text)):
        kept.append(whole[place:begin])
        kept.append(put)
        place = end
    kept.append(whole[place:])
    return "".join(kept)


def _check_text(value):
    if not is_text(value):
        raise NoText("no text")
