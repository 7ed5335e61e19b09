import unittest

from foldletter.texts import (
    is_figure, is_letter, is_line, is_numbered, is_small_letter, is_text, is_whole, numbers_of, text_of,
)

from tests.samples import FIGURES, LETTERS, NO_TEXTS, NO_WHOLES, SIGNS, TORN_TEXTS


class TextsTest(unittest.TestCase):
    def test_each_sign(self):
        for sign in map(chr, range(400)):
            self.assertEqual(is_text(sign), sign in SIGNS + "\n", ascii(sign))
            self.assertEqual(is_text("a" + sign + "b"), sign in SIGNS + "\n", ascii(sign))
            self.assertEqual(is_line(sign), sign in SIGNS, ascii(sign))
            self.assertEqual(is_line("a" + sign + "b"), sign in SIGNS, ascii(sign))

    def test_empty(self):
        self.assertTrue(is_text(""))
        self.assertTrue(is_line(""))

    def test_no_text(self):
        for value in NO_TEXTS:
            self.assertFalse(is_text(value))
            self.assertFalse(is_line(value))

    def test_torn_texts(self):
        for value in TORN_TEXTS:
            self.assertFalse(is_text(value))
            self.assertFalse(is_line(value))

    def test_letters_and_figures(self):
        for sign in map(chr, range(400)):
            self.assertEqual(is_letter(sign), sign in LETTERS, ascii(sign))
            self.assertEqual(is_small_letter(sign), sign in LETTERS and sign == sign.lower(), ascii(sign))
            self.assertEqual(is_figure(sign), sign in FIGURES, ascii(sign))

    def test_whole_numbers(self):
        for number in [0, 1, -1, 255, 10 ** 30, -10 ** 30]:
            self.assertTrue(is_whole(number))
        for value in NO_WHOLES:
            self.assertFalse(is_whole(value))

    def test_numbers_of_signs(self):
        for number in range(-200, 400):
            self.assertEqual(is_numbered(number), number >= 0 and chr(number) in SIGNS)
        for sign in SIGNS + "\n":
            self.assertEqual(text_of([ord(sign)]), sign)
            self.assertEqual(numbers_of(sign), [ord(sign)])
        self.assertEqual(text_of([ord(sign) for sign in SIGNS + "\n"]), SIGNS + "\n")
        self.assertEqual(numbers_of("A b\n"), [65, 32, 98, 10])
        self.assertEqual((text_of([]), numbers_of("")), ("", []))


if __name__ == "__main__":
    unittest.main()
