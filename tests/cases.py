"""What several tests ask."""

import unittest

from foldletter.errors import LetterError, NoLetter

from tests.samples import NO_TEXTS, TORN_TEXTS

# What is no sound letter, with the place of its first step.
NO_LETTERS = [
    *[(value, 0) for value in [*NO_TEXTS, *TORN_TEXTS]], ("", 0), ("x\n", 0), ("A: b\n", 5), ("A: b\n\nc", 7),
    ("A: b\nKind:\n\n", 5), ("Kind: cover/x\n\nx\n", 15), ("Kind: many/x; border=b\n\n--b\n\nc\n", 31),
]


class RefusedCase(unittest.TestCase):
    def refused(self, kind, call, /, *args, **more):
        """The refusal, which is to be just of this class, of a call."""
        with self.assertRaises(LetterError) as caught:
            call(*args, **more)
        self.assertIs(caught.exception.__class__, kind)
        return caught.exception

    def no_letter(self, call, *args):
        """That a call refuses what is no letter, at the place of its first step, whatever stands behind it."""
        for text, at in NO_LETTERS:
            with self.subTest(text=ascii(text)):
                self.assertEqual(self.refused(NoLetter, call, text, *args).at, at)
