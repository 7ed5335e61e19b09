"""What texts and whole numbers are, and which signs a text has."""

# Stands as a number, since a text of the program has no such sign either.
PERCENT = 37
BLANK = 32
LINE_FEED = 10

# The signs in the order of their numbers, from the blank on. A blank stands in
# the percent sign's place, lest all behind it stood at another one.
SIGNS = " !\"#$ &'()*+,-./0123456789:;<=>?@ABCDEFGHIJKLMNOPQRSTUVWXYZ[\\]^_`abcdefghijklmnopqrstuvwxyz{|}~"


def is_text(value):
    """Whether a value, of any kind, is a text."""
    return isinstance(value, str) and all([_is_sign(sign) for sign in value])


def is_line(value):
    """Whether a value, of any kind, is a text without line feeds."""
    return is_text(value) and "\n" not in value


def is_letter(sign):
    """Whether a sign is a letter, great or small."""
    return "a" <= sign <= "z" or "A" <= sign <= "Z"


def is_small_letter(sign):
    """Whether a sign is a small letter."""
    return "a" <= sign <= "z"


def is_figure(sign):
    """Whether a sign is a figure."""
    return "0" <= sign <= "9"


def is_whole(value):
    """Whether a value, of any kind, is a whole number."""
    return isinstance(value, int) and not isinstance(value, bool)


def is_numbered(number):
    """Whether a sign of a text, a line feed aside, has this whole number."""
    return BLANK <= number < BLANK + len(SIGNS) and number != PERCENT


def text_of(numbers):
    """The text whose signs have these numbers, each of them one of a sign."""
    return "".join([_sign_of(number) for number in numbers])


def numbers_of(text):
    """The numbers of a text's signs."""
    return [ord(sign) for sign in text]


def _is_sign(sign):
    return sign == "\n" or (" " <= sign <= "~" and ord(sign) != PERCENT)


def _sign_of(number):
    if number == LINE_FEED:
        return "\n"
    return SIGNS[number - BLANK]
