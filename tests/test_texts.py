import unittest

from foldletter.texts import is_figure, is_letter, is_line, is_text

from tests.samples import FIGURES, LETTERS, NO_TEXTS, SIGNS


class TextsTest(unittest.TestCase):
    def test_each_sign(self):
        for sign in map(chr, range(400)):
            self.assertEqual(is_text(sign), sign in SIGNS + "\n", ascii(sign))
            self.assertEqual(is_text("a" + sign + "b"), sign in SIGNS + "\n", ascii(sign))
            self.assertEqual(is_line(sign), sign in SIGNS, ascii(sign))
            self.assertEqual(is_line("a" + sign + "b"), sign in SIGNS, ascii(sign))

    def test_empty(self):
        self.assertTrue(is_text(""))
        self.assertTrue(is_line(""))

    def test_no_text(self):
        for value in NO_TEXTS:
            self.assertFalse(is_text(value))
            self.assertFalse(is_line(value))

    def test_letters_and_figures(self):
        for sign in map(chr, range(400)):
            self.assertEqual(is_letter(sign), sign in LETTERS, ascii(sign))
            self.assertEqual(is_figure(sign), sign in FIGURES, ascii(sign))


if __name__ == "__main__":
    unittest.main()
