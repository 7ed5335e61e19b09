"""Values that several tests hand in."""

# Of every kind but a text.
NO_TEXTS = [None, True, False, 0, 1, -7, 2.5, [], ["a"], (), ("a",), {}, {"a": "b"}, {"a"}, b"a", object(), str]

LETTERS = "abcdefghijklmnopqrstuvwxyzABCDEFGHIJKLMNOPQRSTUVWXYZ"
FIGURES = "0123456789"

# All signs of a text but the line feed: the percent sign is none.
SIGNS = "".join(chr(number) for number in range(32, 127) if number != 37)
