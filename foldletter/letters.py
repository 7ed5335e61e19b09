"""Sound letters, read to their parts."""

from foldletter.codes import best, read_by
from foldletter.errors import NoLetter
from foldletter.parts import Cover, Leaf, Many
from foldletter.sheets import sheets_of, steps_of
from foldletter.texts import is_text


def read_letter(text):
    """The part that a sound letter's text tells."""
    return parts_of(sound_sheets(text))[()]


def is_sound(text):
    """Whether a value, of any kind, is the text of a sound letter."""
    return is_text(text) and steps_of(text, sheets_of(text)) == []


def sound_sheets(text):
    """The sheets of a sound letter's text, each one ahead of those within it."""
    if not is_text(text):
        raise NoLetter("no text")
    sheets = sheets_of(text)
    found = steps_of(text, sheets)
    if found != []:
        raise NoLetter("no sound letter", found[0][1])
    return sheets


def parts_of(sheets):
    """The parts of a sound letter by their paths, of its sheets."""
    parts = {}
    # Backward, so that those within a part are there ahead of it.
    for sheet in sheets[::-1]:
        parts[sheet.path] = _part_of(sheet, parts)
    return parts


def _part_of(sheet, parts):
    heads = [(top.name, top.value) for top in sheet.tops if top.name.lower() not in ("kind", "code")]
    if sheet.shape == "cover":
        return Cover(parts[sheet.path + (0,)], heads=heads)
    if sheet.shape == "leaf":
        return _leaf_of(sheet, heads)
    return Many(
        [parts[sheet.path + (number,)] for number in range(len(sheet.border_rows))],
        sub=sheet.settled_kind[1],
        heads=heads,
        ahead=sheet.cut(sheet.body_begin, sheet.border_rows[0]),
        behind=sheet.cut(sheet.ending + 1, sheet.end),
    )


def _leaf_of(sheet, heads):
    code = sheet.settled_code
    octets = read_by(sheet.cut(sheet.body_begin, sheet.end), code)
    if code == "plain":
        # Plain reads what it can't write; where it can, it is the best one.
        code = best(octets)
    return Leaf(octets, kind=sheet.settled_kind, code=code, heads=heads)
