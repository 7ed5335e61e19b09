"""A letter's text taken in pieces, and told as it comes."""

from foldletter.borders import border_line, border_of, ending_line
from foldletter.errors import NoText
from foldletter.heads import begins_head, read_heads
from foldletter.kinds import plain_kind
from foldletter.letters import sound_sheets
from foldletter.sheets import kind_told, shape_of
from foldletter.texts import is_text


class Opened:
    """A part whose lines are coming.

    What comes of it is told by a word: "heads", and behind them of a leaf
    "line", of a many "ahead", "parts" and "behind", of a cover "letter".
    """

    def __init__(self, path):
        self.path = path
        self.comes = "heads"
        self.is_begun = False
        # The lines of the last head, which may go on still.
        self.unsettled = []
        self.kind_value = None
        self.parting = None
        self.part_count = 0


class Feed:
    """A letter's text that is taken in pieces, and told as soon as it is settled."""

    def __init__(self):
        self._renew()

    def take(self, text):
        """What is settled by the next piece of the text."""
        if not is_text(text):
            raise NoText("no text")
        self._taken.append(text)
        first, *others = text.split("\n")
        self._line.append(first)
        for piece in others:
            self._settle_line("".join(self._line))
            self._line = [piece]
        told = self._told
        self._told = []
        return told

    def finish(self):
        """End the text, which is to be a sound letter; the feed is new again then."""
        text = "".join(self._taken)
        self._renew()
        sound_sheets(text)

    def _renew(self):
        self._taken = []
        # The pieces of the line that isn't settled yet.
        self._line = []
        self._told = []
        # The letter, the part of it that is coming, and so on; none of a text that is seen to be torn.
        self._opened = [Opened(())]

    def _settle_line(self, line):
        if self._opened == []:
            return
        if self._opened[-1].comes == "heads":
            self._settle_line_of_heads(self._opened[-1], line)
        else:
            self._settle_line_of_body(line)

    def _settle_line_of_heads(self, part, line):
        if line.startswith(" ") and part.unsettled != []:
            part.unsettled.append(line)
            return
        self._settle_head(part)
        if line == "":
            self._tell(part, ("gap", part.path))
            self._open_body(part)
        elif begins_head(line):
            part.unsettled = [line]
        else:
            self._opened = []

    def _settle_head(self, part):
        """Tell the head, where there is one, that no line goes on with any more."""
        for name, value in read_heads(part.unsettled):
            self._tell(part, ("head", part.path, name, value))
            if name.lower() == "kind":
                part.kind_value = value
        part.unsettled = []

    def _open_body(self, part):
        kind = plain_kind() if part.kind_value is None else kind_told(part.kind_value)
        if kind is None:
            self._opened = []
        elif shape_of(kind) == "leaf":
            part.comes = "line"
        elif shape_of(kind) == "cover":
            part.comes = "letter"
            self._opened.append(Opened(part.path + (0,)))
        else:
            part.comes = "ahead"
            part.parting = border_of(kind)

    def _settle_line_of_body(self, line):
        number = self._number_parted(line)
        if number is None:
            last = self._opened[-1]
            self._tell(last, (last.comes, last.path, line))
            return
        # All within the many that is parted end here.
        self._opened = self._opened[:number + 1]
        many = self._opened[-1]
        self._tell(many, ("border", many.path))
        if line == ending_line(many.parting):
            many.comes = "behind"
        else:
            many.comes = "parts"
            self._opened.append(Opened(many.path + (many.part_count,)))
            many.part_count += 1

    def _number_parted(self, line):
        """The number of the outermost many that a line parts, or None."""
        for number, part in enumerate(self._opened):
            if _is_parted(part, line):
                return number
        return None

    def _tell(self, part, thing):
        if not part.is_begun:
            part.is_begun = True
            self._told.append(("begin", part.path))
        self._told.append(thing)


def _is_parted(part, line):
    """Whether a line is a border line of a part, or its ending one."""
    # A many without a border is torn, and so is what stands in it.
    if part.parting is None:
        return False
    if part.comes == "parts" and line == ending_line(part.parting):
        return True
    return part.comes in ("ahead", "parts") and line == border_line(part.parting)
