"""Codes: octets written to a body's text, and read from it."""

from foldletter.errors import NoCode, NoOctets
from foldletter.texts import BLANK, LINE_FEED, is_numbered, is_text, is_whole, numbers_of, text_of

WIDTH = 72
EQUALS = 61
SIXES = "ABCDEFGHIJKLMNOPQRSTUVWXYZabcdefghijklmnopqrstuvwxyz0123456789+/"
SIXTEEN = "0123456789ABCDEF"


def written_by(octets, code):
    """The body's text that tells the octets by a code."""
    _check_octets(octets)
    _check_code(code)
    writer = WRITERS[code]
    return writer(octets)


def read_by(text, code):
    """The octets that a body's text tells by a code."""
    if not is_text(text):
        raise NoCode("no text")
    _check_code(code)
    reader = READERS[code]
    octets = reader(text)
    # Asked last, since what can't be read stands ahead of the text's end.
    if text != "" and not text.endswith("\n"):
        raise NoCode("no line feed at the end", len(text))
    return octets


def best(octets):
    """The word of the code that is best for the octets."""
    _check_octets(octets)
    if _is_plain(octets):
        return "plain"
    if len(_write_sixes(octets)) < len(_write_marks(octets)):
        return "sixes"
    return "marks"


def is_octets(value):
    """Whether a value, of any kind, is a list of octets."""
    return isinstance(value, list) and all([_is_octet(octet) for octet in value])


def sixes_of(octets):
    """The octets by sixes, in one line and without its line feed."""
    return "".join([_four_of(octets[begin:begin + 3]) for begin in range(0, len(octets), 3)])


def by_sixteen(octet):
    """An octet as an equals sign and two figures of sixteen."""
    return f"={octet:02X}"


def _check_octets(value):
    if not is_octets(value):
        raise NoOctets("no list of octets")


def _check_code(value):
    # Asked for a text first, since not all that is handed in can be looked up.
    if not isinstance(value, str) or value not in WRITERS:
        raise NoCode("no code's word")


def _is_octet(value):
    return is_whole(value) and 0 <= value <= 255


def _is_plain(octets):
    """Whether octets can be written by plain."""
    size = 0
    for octet in octets:
        if octet == LINE_FEED:
            size = 0
        else:
            size += 1
        if size > WIDTH or not (octet == LINE_FEED or is_numbered(octet)):
            return False
    # Only a line feed, or no octet at all, leaves nothing behind it.
    return size == 0


def _write_plain(octets):
    if not _is_plain(octets):
        raise NoCode("plain can't write these octets")
    return text_of(octets)


def _read_plain(text):
    return numbers_of(text)


def _write_sixes(octets):
    signs = sixes_of(octets)
    return "".join([signs[begin:begin + WIDTH] + "\n" for begin in range(0, len(signs), WIDTH)])


def _four_of(octets):
    """The four signs of one, two or three octets."""
    missing = 3 - len(octets)
    first, second, third = octets + [0] * missing
    number = 65536 * first + 256 * second + third
    four = SIXES[number // 262144] + SIXES[number // 4096 % 64] + SIXES[number // 64 % 64] + SIXES[number % 64]
    return four[:4 - missing] + "=" * missing


def _read_sixes(text):
    octets = []
    four = []
    filled = 0
    for place, sign in enumerate(text):
        if sign == " " or sign == "\n":
            continue
        if sign == "=" and _may_fill(four, filled):
            filled += 1
        elif sign in SIXES and filled == 0:
            if len(four) == 4:
                octets.extend(_octets_of_four(four))
                four = []
            four.append(SIXES.index(sign))
        else:
            raise NoCode("no sixes go on so", place)
    if four != [] and len(four) + filled < 4:
        raise NoCode("the last four isn't whole", len(text))
    return octets + _octets_of_four(four)


def _may_fill(four, filled):
    """Whether an equals sign goes on with a four that has already some of them."""
    if len(four) == 2:
        return filled < 2 and four[1] % 16 == 0
    return len(four) == 3 and filled < 1 and four[2] % 4 == 0


def _octets_of_four(four):
    """The octets that the signs of a four tell, by their numbers below 64; of no signs none."""
    number = 0
    for six in four + [0] * (4 - len(four)):
        number = 64 * number + six
    octets = [number // 65536, number // 256 % 256, number % 256]
    # Each octet begins in one sign and ends in the next one.
    return octets[:max(0, len(four) - 1)]


def _write_marks(octets):
    lines = []
    line = ""
    for place, octet in enumerate(octets):
        if octet == LINE_FEED:
            lines.append(line + "\n")
            line = ""
        else:
            unit = _unit_at(octets, place)
            # One sign is kept free for the equals sign at the line's end.
            if len(line) + len(unit) >= WIDTH:
                lines.append(line + "=\n")
                line = ""
            line += unit
    if line != "":
        lines.append(line + "=\n")
    return "".join(lines)


def _unit_at(octets, place):
    """The octet at a place, no line feed, by marks."""
    octet = octets[place]
    ends = place + 1 == len(octets) or octets[place + 1] == LINE_FEED
    # At a line's end a bare blank would be read for none.
    if octet == EQUALS or (octet == BLANK and ends) or not is_numbered(octet):
        return by_sixteen(octet)
    return text_of([octet])


def _read_marks(text):
    octets = []
    place = 0
    while place < len(text):
        if text[place] == "=":
            told, place = _read_equals(text, place)
        else:
            told, place = _read_stretch(text, place)
        octets.extend(told)
    return octets


def _read_stretch(text, begin):
    """What a stretch of blanks, or another sign, tells, and the place behind it."""
    end = _blanks_end(text, begin)
    if end == begin:
        return [ord(text[begin])], begin + 1
    if text[end:end + 1] == "\n":
        return [], end
    return [BLANK] * (end - begin), end


def _read_equals(text, begin):
    """What the equals sign at a place tells, and the place behind what goes with it."""
    end = _blanks_end(text, begin + 1)
    if text[end:end + 1] == "\n":
        return [], end + 1
    if end > begin + 1:
        raise NoCode("no line feed behind an equals sign and blanks", end)
    return [16 * _figure_at(text, begin + 1) + _figure_at(text, begin + 2)], begin + 3


def _blanks_end(text, begin):
    """The place behind the stretch of blanks, perhaps none, that begins at a place."""
    end = begin
    while end < len(text) and text[end] == " ":
        end += 1
    return end


def _figure_at(text, place):
    """The number of the figure of sixteen at a place, the text's end perhaps."""
    figure = text[place:place + 1].upper()
    # The text's end gives an empty figure, which is in every text.
    if figure == "" or figure not in SIXTEEN:
        raise NoCode("no figure of sixteen", place)
    return SIXTEEN.index(figure)


WRITERS = {"plain": _write_plain, "sixes": _write_sixes, "marks": _write_marks}
READERS = {"plain": _read_plain, "sixes": _read_sixes, "marks": _read_marks}
