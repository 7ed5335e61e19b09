"""Heads, written to folded lines and read from lines."""

from foldletter.errors import NoHead
from foldletter.texts import is_figure, is_letter, is_line

WIDTH = 72
NAME_SIZE = 30


def fold(name, value):
    """The text of a head: its lines, folded, each with its line feed."""
    if not is_name(name):
        raise NoHead("no name of a head")
    if not is_value(value):
        raise NoHead("no value of a head")
    if value == "":
        return name + ":\n"
    line = name + ": " + value
    folded = []
    # The blank behind the colon belongs to the name: no line is folded there.
    place = _fold_place(line, len(name) + 2)
    while place is not None:
        folded.append(line[:place])
        line = line[place:]
        place = _fold_place(line, 1)
    folded.append(line)
    return "\n".join(folded) + "\n"


def read_heads(lines):
    """The heads that lines, without their line feeds, tell in their order."""
    if not isinstance(lines, list) or not all([is_line(line) for line in lines]):
        raise NoHead("no list of texts without line feeds")
    heads = []
    begin = 0
    while begin < len(lines):
        end = _head_end(lines, begin)
        heads.append(_head_of(lines[begin:end], begin))
        begin = end
    return heads


def is_head(value):
    """Whether a value, of any kind, is a head."""
    return isinstance(value, tuple) and len(value) == 2 and is_name(value[0]) and is_value(value[1])


def begins_head(line):
    """Whether a line begins a head."""
    # One that goes on has a blank in its name, so it begins none.
    name, colon, _ = line.partition(":")
    return colon == ":" and is_name(name)


def is_name(value):
    """Whether a value, of any kind, is a name of a head."""
    if not is_line(value) or not 1 <= len(value) <= NAME_SIZE:
        return False
    return is_letter(value[0]) and all([_is_name_sign(sign) for sign in value])


def is_value(value):
    """Whether a value, of any kind, is a value of a head."""
    return is_line(value) and value == value.strip(" ")


def _is_name_sign(sign):
    return is_letter(sign) or is_figure(sign) or sign == "-"


def _fold_place(line, first):
    """The place of the blank at which a line is folded, from first on, or None."""
    if len(line) <= WIDTH:
        return None
    for place in range(WIDTH, first - 1, -1):
        if _may_fold(line, place):
            return place
    for place in range(WIDTH + 1, len(line)):
        if _may_fold(line, place):
            return place
    return None


def _may_fold(line, place):
    return line[place] == " " and line[place - 1] != " "


def _head_end(lines, begin):
    """The number behind the last line of the head that begins at a line."""
    end = begin + 1
    while end < len(lines) and lines[end].startswith(" "):
        end += 1
    return end


def _head_of(lines, number):
    """The head of its lines, the first of which has the number."""
    if not begins_head(lines[0]):
        raise NoHead("no name, with its colon, of a head", number)
    name, _, rest = lines[0].partition(":")
    return (name, (rest + "".join(lines[1:])).strip(" "))
