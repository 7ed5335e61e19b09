"""Addresses: written to a value, and read from it."""

from foldletter.errors import NoAddress, NoWords
from foldletter.sayings import coded, is_saying, own_text, saying_of_word
from foldletter.texts import BLANK, is_figure, is_line, is_small_letter, numbers_of
from foldletter.words import WordRow, quoted

LOCAL_SIZE = 40
HOUSE_PART_SIZE = 20


def show_addresses(addresses):
    """The value that tells a list of addresses."""
    if not isinstance(addresses, list) or not all([_is_address(address) for address in addresses]):
        raise NoAddress("no list of addresses")
    return ", ".join([_show_address(address) for address in addresses])


def read_addresses(value):
    """The list of addresses that a value tells."""
    row = _row_of(value)
    addresses = []
    if row.is_over():
        return addresses
    addresses.append(_read_address(row))
    while not row.is_over():
        _pass_mark(row, ",")
        addresses.append(_read_address(row))
    return addresses


def _is_address(value):
    return _is_one(value) or _is_group(value)


def _is_one(value):
    if not isinstance(value, tuple) or len(value) != 4 or value[0] != "one":
        return False
    return is_saying(value[1]) and _is_local(value[2]) and _is_house(value[3])


def _is_group(value):
    if not isinstance(value, tuple) or len(value) != 3 or value[0] != "group":
        return False
    if not is_saying(value[1]) or value[1] == []:
        return False
    return isinstance(value[2], list) and all([_is_one(one) for one in value[2]])


def _is_local(value):
    return is_line(value) and 1 <= len(value) <= LOCAL_SIZE


def _is_house(value):
    return is_line(value) and all([_is_house_part(part) for part in value.split(".")])


def _is_house_part(text):
    if not 1 <= len(text) <= HOUSE_PART_SIZE or text.startswith("-") or text.endswith("-"):
        return False
    return all([is_small_letter(sign) or is_figure(sign) or sign == "-" for sign in text])


def _show_address(address):
    if address[0] == "one":
        return _show_one(address)
    return _show_group(address)


def _show_one(one):
    spec = quoted(one[2]) + "@" + one[3]
    if one[1] == []:
        return spec
    return _show_phrase(one[1]) + " <" + spec + ">"


def _show_group(group):
    ones = ", ".join([_show_one(one) for one in group[2]])
    if ones != "":
        ones = " " + ones
    return _show_phrase(group[1]) + ":" + ones + ";"


def _show_phrase(saying):
    text = own_text(saying)
    if text is None:
        return coded(saying)
    return quoted(text)


def _row_of(value):
    try:
        return WordRow(value)
    except NoWords as refusal:
        raise NoAddress("no words of addresses", refusal.at)


def _read_address(row):
    """The address that begins at a row's next word."""
    phrase = _take_phrase(row)
    if row.sees_mark(":"):
        return _read_group(row, phrase)
    return _read_one(row, phrase)


def _take_phrase(row):
    """The words, perhaps none, that may be a phrase; one may be a local as well."""
    phrase = []
    while row.sees("atom", "quoted"):
        phrase.append(row.take())
    return phrase


def _read_one(row, phrase):
    """The one that begins with the words taken already."""
    if len(phrase) == 1 and row.sees_mark("@"):
        local, house = _read_spec(row, phrase[0])
        return ("one", [], local, house)
    _pass_mark(row, "<")
    if not row.sees("atom", "quoted"):
        raise NoAddress("no local", row.place())
    local, house = _read_spec(row, row.take())
    _pass_mark(row, ">")
    return ("one", _saying_of_phrase(phrase), local, house)


def _read_spec(row, word):
    """The local and the house of a spec whose first word is taken already."""
    local = word[1]
    at = row.place()
    _pass_mark(row, "@")
    # Asked behind the mark, which alone makes a local of the word.
    if not _is_local(local):
        raise NoAddress("a local of no signs, or of too many", at)
    at = row.place()
    if not row.sees("atom"):
        raise NoAddress("no house", at)
    house = row.take()[1].lower()
    if not _is_house(house):
        raise NoAddress("no house", at)
    return local, house


def _read_group(row, phrase):
    """The group whose phrase is taken already, its colon not yet."""
    saying = _saying_of_phrase(phrase)
    if saying == []:
        raise NoAddress("a group without signs", row.place())
    _pass_mark(row, ":")
    ones = []
    if not row.sees_mark(";"):
        ones.append(_read_one(row, _take_phrase(row)))
        while row.sees_mark(","):
            _pass_mark(row, ",")
            ones.append(_read_one(row, _take_phrase(row)))
    _pass_mark(row, ";")
    return ("group", saying, ones)


def _pass_mark(row, sign):
    if not row.sees_mark(sign):
        raise NoAddress("no address goes on so", row.place())
    row.take()


def _saying_of_phrase(phrase):
    """The saying that the words of a phrase tell."""
    saying = []
    coded_ahead = False
    for number, word in enumerate(phrase):
        told = _saying_of_atom(word)
        if number > 0 and not (coded_ahead and told is not None):
            saying.append(BLANK)
        coded_ahead = told is not None
        if told is None:
            told = numbers_of(word[1])
        saying.extend(told)
    return saying


def _saying_of_atom(word):
    """The saying of a word that is a coded one, or None."""
    # A quoted word is none, whatever stands in it.
    if word[0] != "atom":
        return None
    return saying_of_word(word[1])
