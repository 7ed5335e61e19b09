"""Sound letters, looked at: their parts' paths and stretches, and what each sign belongs to."""

from foldletter.errors import NoPlace
from foldletter.letters import parts_of, sound_sheets
from foldletter.sheets import sheet_at
from foldletter.texts import is_whole


class Look:
    """A look at a sound letter's text."""

    def __init__(self, text):
        self._sheets = sound_sheets(text)
        self._parts = parts_of(self._sheets)
        # One for each sign of the text.
        self._owners = [None] * len(text)
        for sheet in self._sheets:
            self._own(sheet)

    def paths(self):
        """The paths of all parts, each one ahead of those within it."""
        return [sheet.path for sheet in self._sheets]

    def part(self, path):
        """The part that has a path."""
        sheet = sheet_at(self._sheets, path)
        return self._parts[sheet.path]

    def whole(self, path):
        """The stretch, a tuple (begin, end), of the part that has a path."""
        sheet = sheet_at(self._sheets, path)
        return sheet.span(sheet.begin, sheet.end)

    def body(self, path):
        """The stretch of the body of the part that has a path."""
        sheet = sheet_at(self._sheets, path)
        return sheet.span(sheet.body_begin, sheet.end)

    def heads_at(self, path):
        """The stretches of the heads, with their line feeds, of the part that has a path."""
        sheet = sheet_at(self._sheets, path)
        return [sheet.span(top.begin, top.end) for top in sheet.tops]

    def belongs(self, place):
        """What the sign at a place belongs to."""
        if not is_whole(place) or not 0 <= place < len(self._owners):
            raise NoPlace("no place of a sign")
        return self._owners[place]

    def _own(self, sheet):
        """Keep a part as the owner of the signs that are its own."""
        for first, behind, owner in _owned_lines(sheet):
            begin, end = sheet.span(first, behind)
            self._owners[begin:end] = [owner] * (end - begin)


def _owned_lines(sheet):
    """What a part's own lines belong to, tuples (begin, end, owner)."""
    path = sheet.path
    owned = [(top.begin, top.end, ("head", path, number)) for number, top in enumerate(sheet.tops)]
    owned.append((sheet.gap, sheet.body_begin, ("gap", path)))
    if sheet.shape == "leaf":
        owned.append((sheet.body_begin, sheet.end, ("leaf", path)))
    if sheet.shape == "many":
        owned.append((sheet.body_begin, sheet.border_rows[0], ("ahead", path)))
        for number in [*sheet.border_rows, sheet.ending]:
            owned.append((number, number + 1, ("border", path)))
        owned.append((sheet.ending + 1, sheet.end, ("behind", path)))
    return owned
