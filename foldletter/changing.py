"""Changes of letters, tuples (begin, end, text): made, done, and what they do to places."""

from foldletter.borders import border_line, ending_line
from foldletter.codes import written_by
from foldletter.errors import NoBorder, NoChange, NoHead, NoPart, NoPath, NoPlace, NoText
from foldletter.heads import fold, is_name
from foldletter.letters import sound_sheets
from foldletter.parts import is_part
from foldletter.sheets import sheet_at
from foldletter.texts import is_text, is_whole


def done(text, change):
    """A text when a change is done to it."""
    if not is_text(text):
        raise NoText("no text")
    if not _is_change(change) or change[1] > len(text):
        raise NoChange("no change within the text")
    begin, end, put = change
    return text[:begin] + put + text[end:]


def put_head(text, path, name, value):
    """The change that puts a head into a part, in the place of the first one of its name."""
    sheet = sheet_at(sound_sheets(text), path)
    _check_free_name(name)
    # No line of a head begins like a border line, so none is asked for.
    put = fold(name, value)
    tops = sheet.tops_named(name.lower())
    if tops == []:
        begin, end = sheet.span(sheet.gap, sheet.gap)
    else:
        begin, end = sheet.span(tops[0].begin, tops[0].end)
    return (begin, end, put)


def drop_head(text, path, name):
    """The change that takes out a part's first head of a name."""
    sheet = sheet_at(sound_sheets(text), path)
    _check_free_name(name)
    tops = sheet.tops_named(name.lower())
    if tops == []:
        raise NoHead("no head of this name")
    begin, end = sheet.span(tops[0].begin, tops[0].end)
    return (begin, end, "")


def put_body(text, path, octets):
    """The change by which a leaf's body becomes octets, by its code."""
    sheets = sound_sheets(text)
    sheet = sheet_at(sheets, path)
    if sheet.shape != "leaf":
        raise NoPath("no leaf's path")
    put = written_by(octets, sheet.settled_code)
    _check_borders(sheets, path, put)
    begin, end = sheet.span(sheet.body_begin, sheet.end)
    return (begin, end, put)


def put_part(text, path, at, part):
    """The change by which a part is put among a many's parts, at a place of theirs."""
    sheets = sound_sheets(text)
    sheet = sheet_at(sheets, path)
    if sheet.shape != "many":
        raise NoPath("no many's path")
    if not is_whole(at) or not 0 <= at <= len(sheet.border_rows):
        raise NoPlace("no place among the parts")
    if not is_part(part):
        raise NoPart("no part")
    _check_borders(sheets, path, part.text())
    numbers = [*sheet.border_rows, sheet.ending]
    begin, end = sheet.span(numbers[at], numbers[at])
    return (begin, end, border_line(sheet.parting) + "\n" + part.text())


def drop_part(text, path):
    """The change by which a part of a many is taken out, with its border line."""
    sheets = sound_sheets(text)
    sheet = sheet_at(sheets, path)
    if path == ():
        raise NoPath("the letter is no part of a many")
    many = sheet_at(sheets, path[:-1])
    # A cover has no border line at all.
    if len(many.border_rows) < 2:
        raise NoPath("no part of a many, or the only one")
    begin, end = many.span(many.border_rows[path[-1]], sheet.end)
    return (begin, end, "")


def led(change, place):
    """The place to which a place ahead of a change leads."""
    if not _is_change(change):
        raise NoChange("no change")
    if not is_whole(place) or place < 0:
        raise NoPlace("no place")
    begin, end, put = change
    if place <= begin:
        return place
    if place >= end:
        return place + len(put) - (end - begin)
    return begin


def _is_change(value):
    """Whether a value, of any kind, is a change of some text."""
    if not isinstance(value, tuple) or len(value) != 3:
        return False
    begin, end, put = value
    return is_whole(begin) and is_whole(end) and 0 <= begin <= end and is_text(put)


def _check_free_name(name):
    if not is_name(name) or name.lower() in ("kind", "code"):
        raise NoHead("no name of a head that may be changed")


def _check_borders(sheets, path, put):
    """Refuse a text where a line of it would part a many that has the path, or one within it."""
    lines = put.split("\n")
    for sheet in sheets:
        if sheet.shape == "many" and path[:len(sheet.path)] == sheet.path:
            if border_line(sheet.parting) in lines or ending_line(sheet.parting) in lines:
                raise NoBorder("a line would be a border line")
