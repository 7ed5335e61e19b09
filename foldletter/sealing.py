"""Seals of letters: set by a form that many changes keep, and tried."""

from foldletter.changing import put_head
from foldletter.errors import NoSeal
from foldletter.heads import is_name
from foldletter.letters import sound_sheets
from foldletter.texts import is_figure, is_whole, numbers_of

PRIME = 2147483647
FACTOR = 257


def form(text, names):
    """The form of a letter by the names of heads."""
    sheet = sound_sheets(text)[0]
    _check_names(names)
    return _form_of(sheet, names)


def sum_by(text, names, key):
    """The sum, by a key, of a letter's form by the names of heads."""
    sheet = sound_sheets(text)[0]
    _check_names(names)
    _check_key(key)
    return _sum_of(_form_of(sheet, names), key)


def seal(text, names, key):
    """The change that seals a letter by the names of heads and a key."""
    number = sum_by(text, names, key)
    return put_head(text, (), "Seal", ",".join([name.lower() for name in names]) + f";{number}")


def holds(text, key):
    """Whether a letter's seal holds by a key."""
    sheet = sound_sheets(text)[0]
    _check_key(key)
    seals = sheet.tops_named("seal")
    if seals == []:
        raise NoSeal("no seal")
    names, number = _read_seal(seals[0].value)
    return _sum_of(_form_of(sheet, names), key) == number


def _form_of(sheet, names):
    """The form of the letter that has a sheet."""
    told = []
    for name in names:
        for top in sheet.tops_named(name.lower()):
            told.append(name.lower() + ":" + _with_one_blank(top.value) + "\n")
    lines = [line.rstrip(" ") for line in sheet.cut(sheet.body_begin, sheet.end).split("\n")]
    # The last line is none, but what is behind the last line feed.
    while lines != [] and lines[-1] == "":
        lines.pop()
    return "".join(told) + "\n" + "".join([line + "\n" for line in lines])


def _with_one_blank(value):
    """A value with one blank for each stretch of blanks."""
    return " ".join([piece for piece in value.split(" ") if piece != ""])


def _sum_of(text, key):
    number = key
    for sign in numbers_of(text):
        number = (number * FACTOR + sign + 1) % PRIME
    return number


def _read_seal(value):
    """The names and the sum that a seal's value tells."""
    listed, _, figures = value.partition(";")
    names = []
    if listed != "":
        names = listed.split(",")
    if not _are_names(names) or not all([name == name.lower() for name in names]):
        raise NoSeal("no names of a seal")
    if not _is_sum(figures):
        raise NoSeal("no sum of a seal")
    return names, int(figures)


def _is_sum(figures):
    """Whether a text is a number below the prime, without a needless 0 ahead."""
    # Not read as a number where it is too long, since Python reads none of thousands of figures.
    if not 1 <= len(figures) <= len(str(PRIME)) or not all([is_figure(sign) for sign in figures]):
        return False
    return str(int(figures)) == figures and int(figures) < PRIME


def _are_names(value):
    """Whether a value, of any kind, is a list of names of heads, all unlike and none of them Seal."""
    if not isinstance(value, list) or not all([is_name(name) for name in value]):
        return False
    small = [name.lower() for name in value]
    return "seal" not in small and len(set(small)) == len(small)


def _check_names(value):
    if not _are_names(value):
        raise NoSeal("no names to seal by")


def _check_key(value):
    if not is_whole(value) or not 0 <= value < PRIME:
        raise NoSeal("no key")
