"""Sayings: rows of signs, told by octets and coded to values."""

from foldletter.codes import by_sixteen, is_octets, read_by, sixes_of
from foldletter.errors import NoCode, NoOctets, NoSaying, NoText
from foldletter.texts import BLANK, is_figure, is_letter, is_line, is_numbered, is_whole, numbers_of, text_of

GREATEST_SIGN = 65535
WORD_SIZE = 60


def octets_of(saying):
    """The octets of a saying."""
    _check_saying(saying)
    octets = []
    for sign in saying:
        octets.extend(_octets_of_sign(sign))
    return octets


def saying_of(octets):
    """The saying that octets tell."""
    if not is_octets(octets):
        raise NoOctets("no list of octets")
    saying = []
    place = 0
    while place < len(octets):
        taken = octets[place:place + _size_from(octets[place])]
        sign = _sign_of_octets(taken)
        if sign is None:
            raise NoSaying("no sign's octets", place)
        saying.append(sign)
        place += len(taken)
    return saying


def coded(saying):
    """The value that a saying is coded to."""
    _check_saying(saying)
    text = own_text(saying)
    if text is not None:
        return text
    sixes = _by_words(saying, "s", sixes_of)
    marks = _by_words(saying, "m", _marks_of)
    if len(sixes) < len(marks):
        return sixes
    return marks


def decoded(value):
    """The saying that a value is decoded to."""
    if not is_line(value):
        raise NoText("no text without line feeds")
    stretches = _stretches(value)
    told = [saying_of_word(stretch) for stretch in stretches]
    saying = []
    for number, stretch in enumerate(stretches):
        if told[number] is not None:
            saying.extend(told[number])
        elif not _is_between_told(told, number):
            saying.extend(numbers_of(stretch))
    return saying


def is_saying(value):
    """Whether a value, of any kind, is a saying."""
    return isinstance(value, list) and all([_is_sign(sign) for sign in value])


def own_text(saying):
    """The text that a saying is coded to as it stands, or None where it is coded by words."""
    if not all([is_numbered(sign) for sign in saying]):
        return None
    text = text_of(saying)
    if text != text.strip(" ") or "=?" in text:
        return None
    return text


def saying_of_word(word):
    """The saying that a text tells as a coded word, or None where it is none."""
    octets = _octets_of_word(word)
    if octets is None:
        return None
    try:
        return saying_of(octets)
    except NoSaying:
        return None


def _check_saying(value):
    if not is_saying(value):
        raise NoSaying("no saying")


def _is_sign(value):
    # The blank is the least of a saying's signs.
    return is_whole(value) and BLANK <= value <= GREATEST_SIGN


def _octets_of_sign(sign):
    if sign < 128:
        return [sign]
    if sign < 2048:
        return [192 + sign // 64, 128 + sign % 64]
    return [224 + sign // 4096, 128 + sign % 4096 // 64, 128 + sign % 64]


def _size_from(octet):
    """How many octets a sign has that begins with this one."""
    if octet < 128:
        return 1
    if octet < 224:
        return 2
    return 3


def _sign_of_octets(octets):
    """The sign whose octets these are, or None."""
    sign = octets[0]
    if len(octets) == 2:
        sign = 64 * (sign - 192) + octets[1] - 128
    elif len(octets) == 3:
        sign = 4096 * (sign - 224) + 64 * (octets[1] - 128) + octets[2] - 128
    # Written again, since a number comes also of octets that are cut off or no sign's.
    if not _is_sign(sign) or _octets_of_sign(sign) != octets:
        return None
    return sign


def _by_words(saying, sort, write):
    """The value of a saying by coded words of a sort, their inner signs written by a function."""
    room = WORD_SIZE - len("=?s??=")
    rows = []
    for sign in saying:
        octets = _octets_of_sign(sign)
        if rows != [] and len(write(rows[-1] + octets)) <= room:
            rows[-1].extend(octets)
        else:
            rows.append(octets)
    return " ".join(["=?" + sort + "?" + write(row) + "?=" for row in rows])


def _marks_of(octets):
    """The octets by a coded word's marks."""
    return "".join([_mark_of(octet) for octet in octets])


def _mark_of(octet):
    if octet == BLANK:
        return "_"
    if is_numbered(octet):
        sign = text_of([octet])
        if is_letter(sign) or is_figure(sign):
            return sign
    return by_sixteen(octet)


def _octets_of_word(word):
    """The octets that a text tells as a coded word, whether or not they tell a saying, or None."""
    inner = word[4:-2]
    if inner == "" or not word.endswith("?="):
        return None
    if word.startswith("=?s?"):
        return _octets_told(inner, inner + "\n", "sixes", sixes_of)
    if word.startswith("=?m?"):
        # A body's marks have no such sign for a blank, and want an equals sign where no octet 10 ends them.
        return _octets_told(inner, inner.replace("_", by_sixteen(BLANK)) + "=\n", "marks", _marks_of)
    return None


def _octets_told(inner, body, code, write):
    """The octets that a body tells by a code, or None where a word's inner signs aren't just how they are written."""
    try:
        octets = read_by(body, code)
    except NoCode:
        return None
    if write(octets) != inner:
        return None
    return octets


def _stretches(value):
    """A value cut to stretches, by turns of blanks and of other signs."""
    cut = []
    begin = 0
    for place in range(1, len(value) + 1):
        if place == len(value) or (value[place] == " ") != (value[begin] == " "):
            cut.append(value[begin:place])
            begin = place
    return cut


def _is_between_told(told, number):
    """Whether what is beside a stretch, on both sides, tells a saying."""
    return 0 < number < len(told) - 1 and told[number - 1] is not None and told[number + 1] is not None
