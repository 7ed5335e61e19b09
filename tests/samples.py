"""Values that several tests hand in."""

# Of every kind but a text.
NO_TEXTS = [None, True, False, 0, 1, -7, 2.5, [], ["a"], (), ("a",), {}, {"a": "b"}, {"a"}, b"a", object(), str]

# Of every kind but a whole number.
NO_WHOLES = [None, True, False, 2.0, 0.5, "", "1", "a", b"1", [], [1], (), (1,), {}, {1: 1}, {1}, 1j, object(), int]

# Of every kind but a list.
NO_LISTS = [
    None, True, False, 0, 65, 2.5, "", "A", b"", b"A", (), (65,), {}, {65: 65}, {65}, range(65, 67), object(), list,
]

# Of every kind but a list of octets.
NO_OCTETS = [
    *NO_LISTS, bytes([65]), bytearray(b"A"), (65, 66), [256], [-1], [65, 66, 256], [65, -1, 66], [10 ** 20], [[65]],
    *[[value] for value in NO_WHOLES], *[[65, value, 66] for value in NO_WHOLES],
]

# Texts but for one sign that no text has.
TORN_TEXTS = ["a\t", "\r\n", "a\u00e9", "\u20ac", "\x7f", "\x00", "a" + chr(37), "\ud800"]

LETTERS = "abcdefghijklmnopqrstuvwxyzABCDEFGHIJKLMNOPQRSTUVWXYZ"
FIGURES = "0123456789"

# All signs of a text but the line feed: the percent sign is none.
SIGNS = "".join(chr(number) for number in range(32, 127) if number != 37)


def signs_of(text):
    """The numbers of the signs of any string."""
    return [ord(sign) for sign in text]
