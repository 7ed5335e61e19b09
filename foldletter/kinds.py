"""Kinds of parts: written to a value, and read from it."""

from foldletter.errors import NoKind, NoWords
from foldletter.texts import is_figure, is_line, is_small_letter
from foldletter.words import WordRow, quoted

WORD_SIZE = 20
PIECE_SIZE = 40


def show_kind(kind):
    """The value that tells a kind."""
    if not is_kind(kind):
        raise NoKind("no kind")
    main, sub, pairs = kind
    shown = [main + "/" + sub]
    for name, value in pairs:
        shown.extend(_show_pair(name, value))
    return "; ".join(shown)


def read_kind(value):
    """The kind that a value tells."""
    row = _row_of(value)
    main, sub = _take_sort(row)
    # Of each name its values by their pieces' numbers, "" that of a whole one.
    told = {}
    while not row.is_over():
        if not row.sees_mark(";"):
            raise NoKind("no semicolon ahead of a pair", row.place())
        row.take()
        _take_pair(row, told)
    if not all([_is_complete(told[name]) for name in told]):
        raise NoKind("pieces of a value are missing", row.place())
    return (main, sub, [(name, _put_together(told[name])) for name in told])


def is_kind(value):
    """Whether a value, of any kind, is a kind."""
    if not isinstance(value, tuple) or len(value) != 3:
        return False
    main, sub, pairs = value
    if not is_sort(main) or not is_sort(sub) or not isinstance(pairs, list):
        return False
    if not all([_is_pair(pair) for pair in pairs]):
        return False
    return len({pair[0] for pair in pairs}) == len(pairs)


def is_sort(value):
    """Whether a value, of any kind, may be the main or the sub of a kind."""
    return _is_word(value, "-+")


def plain_kind():
    """The kind of a leaf of which none is told."""
    return ("text", "plain", [])


def _is_pair(value):
    if not isinstance(value, tuple) or len(value) != 2:
        return False
    return _is_pair_name(value[0]) and is_line(value[1])


def _is_pair_name(value):
    return _is_word(value, "-")


def _is_word(value, others):
    """Whether a value is a word of small letters, figures and other signs, a letter first."""
    if not is_line(value) or not 1 <= len(value) <= WORD_SIZE or not is_small_letter(value[0]):
        return False
    return all([is_small_letter(sign) or is_figure(sign) or sign in others for sign in value])


def _show_pair(name, value):
    """The pairs, as they are written, of a name and its value, several where it is cut."""
    if len(value) <= PIECE_SIZE:
        return [name + "=" + quoted(value)]
    pieces = [value[begin:begin + PIECE_SIZE] for begin in range(0, len(value), PIECE_SIZE)]
    return [f"{name}*{number}=" + quoted(piece) for number, piece in enumerate(pieces)]


def _row_of(value):
    try:
        return WordRow(value)
    except NoWords as refusal:
        raise NoKind("no words of a kind", refusal.at)


def _take_sort(row):
    """The main and the sub that a row's first word tells."""
    at = row.place()
    if not row.sees("atom"):
        raise NoKind("no main and sub", at)
    main, _, sub = row.take()[1].lower().partition("/")
    # Without a stroke the sub is empty, so that it is none.
    if not is_sort(main) or not is_sort(sub):
        raise NoKind("no main and sub", at)
    return main, sub


def _take_pair(row, told):
    """Put the pair that a row's next words tell to those told."""
    at = row.place()
    if not row.sees("atom"):
        raise NoKind("no pair", at)
    word = row.take()
    label, equals, value = word[1].partition("=")
    name, star, number = label.lower().partition("*")
    if equals == "" or not _is_pair_name(name) or (star == "*" and not _is_number(number)):
        raise NoKind("no name of a pair", at)
    values = told.setdefault(name, {})
    if not _may_join(values, number):
        raise NoKind("a name or a piece twice", at)
    if value == "":
        value = _take_quoted(row, word[3])
    values[number] = value


def _is_number(text):
    """Whether a text is a number by figures, without a needless 0 ahead."""
    if text == "" or not all([is_figure(sign) for sign in text]):
        return False
    return text == "0" or text[0] != "0"


def _may_join(values, number):
    """Whether a piece of this number, or the whole value, may stand beside the values of its name."""
    if number == "":
        return values == {}
    return "" not in values and number not in values


def _take_quoted(row, place):
    """The text of the quoted word that begins at a place."""
    if not row.sees("quoted") or row.place() != place:
        raise NoKind("no value of a pair", row.place())
    return row.take()[1]


def _is_complete(values):
    """Whether these are a whole value, or all pieces of one."""
    return "" in values or all([str(number) in values for number in range(len(values))])


def _put_together(values):
    if "" in values:
        return values[""]
    return "".join([values[str(number)] for number in range(len(values))])
