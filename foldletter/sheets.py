"""A text, sound or torn, cut to its parts: where each thing stands, and what mends it."""

from foldletter.borders import border_line, border_of, ending_line
from foldletter.codes import read_by
from foldletter.errors import NoCode, NoKind, NoPath
from foldletter.heads import begins_head, read_heads
from foldletter.kinds import plain_kind, read_kind
from foldletter.texts import is_whole

# The words of steps, in the order of those at one place.
STEP_WORDS = ("feed", "gap", "drop", "close")


class Rows:
    """The lines of a text that is empty or ends with a line feed, by their numbers."""

    def __init__(self, text):
        self.lines = text.split("\n")[:-1]
        self._source = text
        self._places = [0]
        for line in self.lines:
            self._places.append(self._places[-1] + len(line) + 1)

    def begin_of(self, number):
        """The place at which a line begins, or the text ends."""
        return self._places[number]

    def cut(self, begin, end):
        """The text of the lines from one to another, with their line feeds."""
        return self._source[self._places[begin]:self._places[end]]


class Top:
    """A head in a text, with the numbers of its first line and of the one behind it."""

    def __init__(self, head, begin, end):
        self.name, self.value = head
        self.begin = begin
        self.end = end


class Sheet:
    """A part's text within a text: what its lines are, by their numbers, and the fixes that mend it.

    Its tops are its heads, its gap is the empty line behind them; a many's
    parting is its border. Of a torn text all is told as it is when the fixes
    are done, tuples (word, begin, end, text): a step's word, and the change,
    by places, that the step makes.
    """

    def __init__(self, rows, path, begin, end):
        self._rows = rows
        self.path = path
        self.begin = begin
        self.end = end
        self.fixes = []
        self.gap = _heads_end(rows.lines, begin, end)
        self.tops = _tops_of(rows.lines, begin, self.gap)
        self.body_begin = self._behind_gap()
        self.settled_kind = self._settle_kind()
        self.shape = shape_of(self.settled_kind)
        self.settled_code = self._settle_code()
        self.parting = None
        self.border_rows = []
        self.ending = end
        if self.shape == "many":
            self._part_body()

    def span(self, begin, end):
        """The places at which the lines from one to another begin and end."""
        return (self._rows.begin_of(begin), self._rows.begin_of(end))

    def cut(self, begin, end):
        """The text of the lines from one to another, with their line feeds."""
        return self._rows.cut(begin, end)

    def tops_named(self, name):
        """The heads of a name, which is told in small letters."""
        return [top for top in self.tops if top.name.lower() == name]

    def within(self):
        """The sheets of the parts straight within this one."""
        if self.shape == "cover":
            return [Sheet(self._rows, self.path + (0,), self.body_begin, self.end)]
        begins = [number + 1 for number in self.border_rows]
        ends = [*self.border_rows[1:], self.ending]
        return [
            Sheet(self._rows, self.path + (number,), begin, end)
            for number, (begin, end) in enumerate(zip(begins, ends))
        ]

    def _fix(self, word, begin, end, text):
        first, behind = self.span(begin, end)
        self.fixes.append((word, first, behind, text))

    def _behind_gap(self):
        """The line at which the body begins."""
        if self.gap < self.end and self._rows.lines[self.gap] == "":
            return self.gap + 1
        self._fix("gap", self.gap, self.gap, "\n")
        return self.gap

    def _drop(self, tops):
        for top in tops:
            self._fix("drop", top.begin, top.end, "")

    def _settle_kind(self):
        """The kind that is left, the heads dropped that don't tell it."""
        tops = self.tops_named("kind")
        kind = None
        if tops != []:
            kind = self._kind_by(tops[0].value)
        if kind is None:
            self._drop(tops)
            return plain_kind()
        self._drop(tops[1:])
        return kind

    def _kind_by(self, value):
        """The kind that a value tells for these lines, or None."""
        kind = kind_told(value)
        if kind is None or shape_of(kind) != "many":
            return kind
        border = border_of(kind)
        if border is None or self._numbers_of(border_line(border), self.body_begin) == []:
            return None
        return kind

    def _settle_code(self):
        """The code that is left, the heads dropped that don't tell it."""
        tops = self.tops_named("code")
        if tops == [] or not self._is_code_kept(tops[0].value.lower()):
            self._drop(tops)
            return "plain"
        self._drop(tops[1:])
        return tops[0].value.lower()

    def _is_code_kept(self, code):
        if self.shape != "leaf":
            return code == "plain"
        # What is no code's word reads nothing.
        try:
            read_by(self._rows.cut(self.body_begin, self.end), code)
        except NoCode:
            return False
        return True

    def _part_body(self):
        """Part a many's body at its borders."""
        self.parting = border_of(self.settled_kind)
        numbers = self._numbers_of(border_line(self.parting), self.body_begin)
        endings = self._numbers_of(ending_line(self.parting), numbers[0])
        if endings == []:
            self._fix("close", self.end, self.end, ending_line(self.parting) + "\n")
        else:
            self.ending = endings[0]
        self.border_rows = [number for number in numbers if number < self.ending]

    def _numbers_of(self, line, begin):
        """The numbers, from one on, of the lines that are like this one."""
        lines = self._rows.lines
        return [number for number in range(begin, self.end) if lines[number] == line]


def sheets_of(text):
    """The sheets of all parts of a text, each one ahead of those within it."""
    rows = Rows(fed(text))
    found = []
    # Those still to come, the next one last.
    waiting = [Sheet(rows, (), 0, len(rows.lines))]
    while waiting != []:
        sheet = waiting.pop()
        found.append(sheet)
        waiting.extend(sheet.within()[::-1])
    return found


def steps_of(text, sheets):
    """The steps that mend a text, of its sheets."""
    found = [(fix[0], min(fix[1], len(text))) for fix in fixes_of(sheets)]
    if fed(text) != text:
        found.append(("feed", len(text)))
    return sorted(found, key=_step_order)


def fixes_of(sheets):
    """The fixes of sheets, in the order in which they are done."""
    fixes = []
    # An inner part's close goes first of those at one place.
    for sheet in sheets[::-1]:
        fixes.extend(sheet.fixes)
    return sorted(fixes, key=_step_order)


def fed(text):
    """A text with a line feed at its end where it isn't empty."""
    if text == "" or text.endswith("\n"):
        return text
    return text + "\n"


def sheet_at(sheets, path):
    """The sheet of the part that has a path."""
    if isinstance(path, tuple) and all([is_whole(number) for number in path]):
        for sheet in sheets:
            if sheet.path == path:
                return sheet
    raise NoPath("no path of the letter")


def kind_told(value):
    """The kind that a head's value tells, or None."""
    try:
        return read_kind(value)
    except NoKind:
        return None


def shape_of(kind):
    """The word of what a part of this kind is."""
    if kind[0] == "many" or kind[0] == "cover":
        return kind[0]
    return "leaf"


def _step_order(step):
    return (step[1], STEP_WORDS.index(step[0]))


def _heads_end(lines, begin, end):
    """The number behind the last line of the heads that begin at a line."""
    number = begin
    while number < end and _is_of_head(lines, number, begin):
        number += 1
    return number


def _is_of_head(lines, number, begin):
    """Whether a line begins a head, or goes on with one, where all lines ahead of it do."""
    return begins_head(lines[number]) or (number > begin and lines[number].startswith(" "))


def _tops_of(lines, begin, end):
    """The heads that lines tell, with the numbers of their lines."""
    begins = [number for number in range(begin, end) if not lines[number].startswith(" ")]
    ends = [*begins[1:], end]
    heads = read_heads(lines[begin:end])
    return [Top(head, begins[number], ends[number]) for number, head in enumerate(heads)]
