import base64
import copy
import inspect
import itertools
import random
import re
import unittest

from foldletter import codes
from foldletter.codes import best, read_by, written_by
from foldletter.errors import LetterError, NoCode, NoOctets

from tests.samples import NO_OCTETS, NO_TEXTS, SIGNS, TORN_TEXTS, signs_of

CODES = ["plain", "sixes", "marks"]

NO_CODES = [
    *NO_TEXTS, "", "Plain", "PLAIN", "plain ", " plain", "plain\n", "six", "sixe", "sixess", "s", "m", "p", "mark",
    "plainsixes", "base64", ["plain"], ("plain",), {"plain": 1}, {"plain"}, b"plain", "a" + chr(37),
]

# Octets that plain can't write.
NO_PLAIN = [
    [65], [10, 65], [65, 10, 66], [32], [9, 10], [13, 10], [0, 10], [31, 10], [37, 10], [127, 10], [128, 10], [255, 10],
    [65] * 73 + [10], [10] + [65] * 73 + [10], [65] * 72 + [10] + [65] * 73 + [10], [65] * 72, [65] * 200 + [10],
]

SIX = "[A-Za-z0-9+/]"
SIXES_READ = re.compile(f"({SIX}{{4}})*({SIX}[AQgw]==|{SIX}{{2}}[AEIMQUYcgkosw048]=)?")
MARKS_READ = re.compile("(=[0-9A-Fa-f]{2}|= *\n|[^=])*")
MARKS_UNIT = re.compile("=([0-9A-Fa-f]{2})|= *\n| +(?=\n)|(.|\n)")


def cut_at(text, size):
    return [text[begin:begin + size] for begin in range(0, len(text), size)]


def sixes_by_base64(octets):
    signs = base64.b64encode(bytes(octets)).decode("ascii")
    return "".join(line + "\n" for line in cut_at(signs, 72))


def units_by_the_words(row):
    """The units of octets between two line feeds, or of those at the end."""
    units = []
    for place, octet in enumerate(row):
        bare = 33 <= octet <= 126 and octet not in (37, 61) or octet == 32 and place < len(row) - 1
        units.append(chr(octet) if bare else "=" + format(octet, "02X"))
    return units


def marks_by_the_words(octets):
    """What point [19] says: each row between line feeds packed to lines by looking for the longest one."""
    rows = [list(row) for row in bytes(octets).split(b"\n")]
    told = []
    for number, row in enumerate(rows):
        units = units_by_the_words(row)
        lines = []
        while units:
            many = max(many for many in range(1, len(units) + 1) if len("".join(units[:many])) <= 71)
            lines.append("".join(units[:many]))
            units = units[many:]
        last = number == len(rows) - 1
        end = "\n" if not last else "=\n" if row else ""
        told.append("=\n".join(lines) + end)
    return "".join(told)


def is_read(text, code):
    """What point [20] says of a text as a whole."""
    if text and not text.endswith("\n"):
        return False
    if code == "sixes":
        return bool(SIXES_READ.fullmatch(re.sub("[ \n]", "", text)))
    return code == "plain" or bool(MARKS_READ.fullmatch(text))


def read_by_the_words(text, code):
    if code == "sixes":
        return list(base64.b64decode(re.sub("[ \n]", "", text)))
    if code == "plain":
        return signs_of(text)
    octets = []
    for figures, sign in MARKS_UNIT.findall(text):
        octets.extend([int(figures, 16)] if figures else signs_of(sign))
    return octets


# Each text that can go on to one that is read goes on so by one of these.
TAILS = ["", "\n", "A\n", "AA\n", "AAA\n", "=\n", "==\n", "0\n", "00\n"]


def refused_at(text, code):
    """The place that point [20] tells, found by trying how each beginning can go on."""
    for place in range(len(text)):
        if not any(is_read(text[:place + 1] + tail, code) for tail in TAILS):
            return place
    return len(text)


def samples_of_octets():
    """Rows of octets of all sizes up to 300, of several mixtures."""
    chance = random.Random(7)
    mixtures = [range(256), range(32, 127), [32, 10], [32, 10, 65], [61, 65, 10], [65, 200], [65], [10], [0, 32], [32]]
    for mixture in mixtures:
        for size in [*range(0, 20), *range(60, 90), 140, 143, 144, 216, 299, 300]:
            yield [chance.choice(mixture) for _ in range(size)]


class CodesCase(unittest.TestCase):
    def refused(self, kind, call, *args, **more):
        with self.assertRaises(LetterError) as caught:
            call(*args, **more)
        self.assertIs(caught.exception.__class__, kind)
        return caught.exception

    def no_code(self, at, call, *args, **more):
        self.assertEqual(self.refused(NoCode, call, *args, **more).at, at)

    def there_and_back(self, octets, code, text):
        self.assertEqual(written_by(octets, code), text)
        self.assertEqual(read_by(text, code), octets)


class InterfaceTest(CodesCase):
    def test_the_parameters(self):
        for function, names in [(written_by, ["octets", "code"]), (read_by, ["text", "code"]), (best, ["octets"])]:
            self.assertTrue(inspect.isfunction(function))
            self.assertEqual(list(inspect.signature(function).parameters), names)
            self.assertEqual(function.__module__, codes.__name__)

    def test_by_name(self):
        self.assertEqual(written_by(octets=[65, 10], code="plain"), "A\n")
        self.assertEqual(written_by(code="marks", octets=[65]), "A=\n")
        self.assertEqual(written_by([65], code="sixes"), "QQ==\n")
        self.assertEqual(read_by(text="A\n", code="plain"), [65, 10])
        self.assertEqual(read_by(code="sixes", text="QQ==\n"), [65])
        self.assertEqual(best(octets=[65, 10]), "plain")

    def test_kinds_of_what_is_told(self):
        for code in CODES:
            self.assertIs(written_by([65, 10], code).__class__, str)
            told = read_by("QUEK\n", code)
            self.assertIs(told.__class__, list)
            self.assertEqual({octet.__class__ for octet in told}, {int})
        self.assertIs(best([]).__class__, str)

    def test_what_is_told_is_new(self):
        for code in CODES:
            told = read_by("QUEK\n", code)
            again = read_by("QUEK\n", code)
            self.assertIsNot(told, again)
            told.clear()
            self.assertEqual(read_by("QUEK\n", code), again)
            self.assertIsNot(read_by("", code), read_by("", code))

    def test_nothing_handed_in_is_changed(self):
        for octets in [[], [65], [65, 66], [65, 66, 10], [0, 32, 10, 32], list(range(256))]:
            kept = copy.copy(octets)
            for code in CODES:
                try:
                    written_by(octets, code)
                except NoCode:
                    self.assertEqual(code, "plain")
                self.assertEqual(octets, kept)
            best(octets)
            self.assertEqual(octets, kept)


class RefusedTest(CodesCase):
    def test_no_octets(self):
        for value in NO_OCTETS:
            for code in CODES:
                with self.subTest(value=value, code=code):
                    self.refused(NoOctets, written_by, value, code)
            self.refused(NoOctets, best, value)

    def test_no_octets_by_name(self):
        self.refused(NoOctets, written_by, code="plain", octets=None)
        self.refused(NoOctets, best, octets=None)

    def test_the_least_and_the_greatest_octet(self):
        for code in ["sixes", "marks"]:
            self.assertEqual(read_by(written_by([0, 255], code), code), [0, 255])
            self.assertEqual(read_by(written_by([255, 0, 255], code), code), [255, 0, 255])
        self.assertEqual(best([0, 255]), "sixes")

    def test_no_code_to_write_by(self):
        for value in NO_CODES:
            for octets in [[], [65, 10], [200]]:
                with self.subTest(value=value, octets=octets):
                    self.no_code(0, written_by, octets, value)

    def test_no_code_to_read_by(self):
        for value in NO_CODES:
            for text in ["", "QUEK\n", "=\n", "QUEK", "a-"]:
                with self.subTest(value=value, text=text):
                    self.no_code(0, read_by, text, value)

    def test_octets_go_ahead_of_the_code(self):
        for value in NO_OCTETS:
            self.refused(NoOctets, written_by, value, "other")
            self.refused(NoOctets, written_by, value, None)

    def test_no_text(self):
        for code in CODES:
            for value in [*NO_TEXTS, *TORN_TEXTS]:
                with self.subTest(value=ascii(value), code=code):
                    self.no_code(0, read_by, value, code)

    def test_no_text_by_no_code(self):
        self.no_code(0, read_by, None, None)
        self.no_code(0, read_by, None, "other")
        self.no_code(0, read_by, text=None, code="plain")


class PlainTest(CodesCase):
    def test_no_octets_at_all(self):
        self.there_and_back([], "plain", "")

    def test_one_two_and_three(self):
        self.there_and_back([10], "plain", "\n")
        self.there_and_back([65, 10], "plain", "A\n")
        self.there_and_back([65, 66, 10], "plain", "AB\n")
        self.there_and_back([10, 10, 10], "plain", "\n\n\n")

    def test_each_sign(self):
        for number in range(256):
            if chr(number) in SIGNS or number == 10:
                self.there_and_back([number, 10], "plain", chr(number) + "\n")
            else:
                self.no_code(0, written_by, [number, 10], "plain")

    def test_all_signs(self):
        for signs in cut_at(SIGNS, 72):
            self.there_and_back(signs_of(signs + "\n"), "plain", signs + "\n")

    def test_lines_of_71_72_and_73(self):
        for size in [71, 72]:
            for text in ["A" * size + "\n", "\n" + "A" * size + "\n", ("A" * size + "\n") * 3]:
                self.there_and_back(signs_of(text), "plain", text)
        for text in ["A" * 73 + "\n", "\n" + "A" * 73 + "\n", "A" * 72 + "\n" + "A" * 73 + "\n"]:
            self.no_code(0, written_by, signs_of(text), "plain")

    def test_blanks(self):
        for text in [" \n", "   \n \n", "a  \n", " a\n  ".rstrip() + "\n", " " * 72 + "\n"]:
            self.there_and_back(signs_of(text), "plain", text)

    def test_what_it_cannot_write(self):
        for octets in NO_PLAIN:
            with self.subTest(octets):
                self.no_code(0, written_by, octets, "plain")

    def test_lines_of_any_size_are_read(self):
        for size in [71, 72, 73, 1000, 59999]:
            text = "A" * size + "\n"
            self.assertEqual(read_by(text, "plain"), signs_of(text))

    def test_read_as_it_stands(self):
        for text in ["=\n", "=41 \n", "a \n", "QUEK\n", "\n", "\n\n", SIGNS + "\n"]:
            self.assertEqual(read_by(text, "plain"), signs_of(text))

    def test_no_line_feed_at_the_end(self):
        for text in ["a", " ", "a\nb", "\n ", "=", "a" * 73, "a\n\nbc"]:
            self.no_code(len(text), read_by, text, "plain")


class SixesTest(CodesCase):
    def test_no_octets_at_all(self):
        self.there_and_back([], "sixes", "")

    def test_one_two_and_three(self):
        self.there_and_back([65], "sixes", "QQ==\n")
        self.there_and_back([65, 66], "sixes", "QUI=\n")
        self.there_and_back([65, 66, 67], "sixes", "QUJD\n")
        self.there_and_back([65, 66, 67, 68], "sixes", "QUJDRA==\n")
        self.there_and_back([0], "sixes", "AA==\n")
        self.there_and_back([255], "sixes", "/w==\n")
        self.there_and_back([0, 0], "sixes", "AAA=\n")
        self.there_and_back([255, 255], "sixes", "//8=\n")
        self.there_and_back([251, 255, 191], "sixes", "+/+/\n")

    def test_each_sign(self):
        signs = "ABCDEFGHIJKLMNOPQRSTUVWXYZabcdefghijklmnopqrstuvwxyz0123456789+/"
        for number, sign in enumerate(signs):
            self.there_and_back([4 * number], "sixes", sign + "A==\n")
            self.there_and_back([0, 0, number], "sixes", "AAA" + sign + "\n")

    def test_each_sign_at_each_place(self):
        signs = "ABCDEFGHIJKLMNOPQRSTUVWXYZabcdefghijklmnopqrstuvwxyz0123456789+/"
        for place in range(4):
            for sign in signs:
                for other in "AB/":
                    four = other * place + sign + other * (3 - place)
                    self.there_and_back(list(base64.b64decode(four)), "sixes", four + "\n")

    def test_all_256_octets(self):
        octets = list(range(256))
        text = written_by(octets, "sixes")
        self.assertEqual([len(line) for line in text.split("\n")], [72] * 4 + [56, 0])
        self.there_and_back(octets, "sixes", sixes_by_base64(octets))
        self.there_and_back(octets[::-1], "sixes", sixes_by_base64(octets[::-1]))

    def test_lines_of_72_signs(self):
        for size, sizes in [
            (51, [68]), (52, [72]), (53, [72]), (54, [72]), (55, [72, 4]), (108, [72, 72]), (109, [72, 72, 4]),
        ]:
            text = written_by([65] * size, "sixes")
            self.assertEqual([len(line) for line in text.split("\n")], sizes + [0])
            self.assertEqual(read_by(text, "sixes"), [65] * size)

    def test_there_and_back(self):
        for octets in samples_of_octets():
            self.there_and_back(octets, "sixes", sixes_by_base64(octets))

    def test_blanks_and_line_feeds_are_left_out(self):
        for text in [
            "QUJD\n", "\nQUJD\n", "QUJD\n\n", " QUJD \n", "Q U J D\n", "Q\nU\nJ\nD\n", "  Q  U\n J \n\n D  \n \n",
            "QUJD  \n",
        ]:
            self.assertEqual(read_by(text, "sixes"), [65, 66, 67])
        for text in ["Q Q = =\n", "QQ\n==\n", "QQ=\n=\n", "QQ= \n = \n \n", "\n\nQQ==\n\n"]:
            self.assertEqual(read_by(text, "sixes"), [65])
        for text in ["Q U I =\n", "QUI\n=\n", "QUI= \n \n"]:
            self.assertEqual(read_by(text, "sixes"), [65, 66])
        for text in ["\n", " \n", "\n\n", "  \n   \n"]:
            self.assertEqual(read_by(text, "sixes"), [])

    def test_lines_of_any_size_are_read(self):
        self.assertEqual(read_by("QUJD" * 14999 + "\n", "sixes"), [65, 66, 67] * 14999)
        self.assertEqual(read_by("Q\nU\nJ\nD\n" * 7000, "sixes"), [65, 66, 67] * 7000)

    def test_signs_that_are_none_of_the_sixty_four(self):
        for sign in SIGNS:
            if sign not in " =+/" and not sign.isalnum():
                for ahead in ["", "Q", "QU", "QUJ", "QUJD", "QUJDQ", "QQ", "QQ=", "QQ==", "QUI=", "QUJD\n ", "\n"]:
                    self.no_code(len(ahead), read_by, ahead + sign + "\n", "sixes")

    def test_equals_sign_too_soon(self):
        for ahead in ["", "Q", "QUJD", "QUJDQ", " \n", "QUJD\n"]:
            for behind in ["=\n", "==\n", "=", "=QQ\n"]:
                self.no_code(len(ahead), read_by, ahead + behind, "sixes")

    def test_equals_sign_too_often(self):
        self.no_code(4, read_by, "QQ===\n", "sixes")
        self.no_code(4, read_by, "QUI==\n", "sixes")
        self.no_code(6, read_by, "QUI=\n =\n", "sixes")
        self.no_code(4, read_by, "QUJD=\n", "sixes")

    def test_a_sign_behind_an_equals_sign(self):
        self.no_code(3, read_by, "QQ=Q\n", "sixes")
        self.no_code(4, read_by, "QQ==QQ==\n", "sixes")
        self.no_code(4, read_by, "QUI=QUJD\n", "sixes")
        self.no_code(5, read_by, "QUI=\nA\n", "sixes")

    def test_what_is_filled_up_is_not_0(self):
        for sign in "ABPQRfgxw9+/":
            if sign in "AQgw":
                self.assertEqual(len(read_by("Q" + sign + "==\n", "sixes")), 1)
            else:
                self.no_code(2, read_by, "Q" + sign + "==\n", "sixes")
                self.no_code(4, read_by, "Q" + sign + "\n ==\n", "sixes")
        for sign in "ABCDEFGHIJKLwxyz89+/":
            if sign in "AEIw8":
                self.assertEqual(len(read_by("QQ" + sign + "=\n", "sixes")), 2)
            else:
                self.no_code(3, read_by, "QQ" + sign + "=\n", "sixes")

    def test_ends_too_soon(self):
        for text in [
            "Q", "Q\n", "QU\n", "QUJ\n", "QUJDQ\n", "QQ=\n", "QQ= \n\n", "QQ=", "QQ==", "QUJD", "QUJD\nQUJD", " ",
            "\n ",
        ]:
            self.no_code(len(text), read_by, text, "sixes")


class MarksTest(CodesCase):
    def test_no_octets_at_all(self):
        self.there_and_back([], "marks", "")

    def test_one_two_and_three(self):
        self.there_and_back([65], "marks", "A=\n")
        self.there_and_back([65, 66], "marks", "AB=\n")
        self.there_and_back([65, 66, 67], "marks", "ABC=\n")
        self.there_and_back([65, 66, 10], "marks", "AB\n")
        self.there_and_back([10], "marks", "\n")
        self.there_and_back([10, 65], "marks", "\nA=\n")

    def test_each_octet(self):
        for octet in range(256):
            if octet == 10:
                text = "A\nA\n"
            elif chr(octet) in SIGNS and octet != 61:
                text = "A" + chr(octet) + "A\n"
            else:
                text = "A=" + format(octet, "02X") + "A\n"
            self.there_and_back([65, octet, 65, 10], "marks", text)

    def test_octets_that_plain_signs_hide(self):
        self.there_and_back([37, 61, 9, 13, 127, 128, 255, 0, 10], "marks", "=25=3D=09=0D=7F=80=FF=00\n")

    def test_all_256_octets(self):
        octets = list(range(256))
        self.there_and_back(octets, "marks", marks_by_the_words(octets))
        self.there_and_back(octets[::-1], "marks", marks_by_the_words(octets[::-1]))

    def test_blanks(self):
        self.there_and_back([32], "marks", "=20=\n")
        self.there_and_back([32, 10], "marks", "=20\n")
        self.there_and_back([32, 32, 10], "marks", " =20\n")
        self.there_and_back([32, 32, 32], "marks", "  =20=\n")
        self.there_and_back([65, 32, 66, 10], "marks", "A B\n")
        self.there_and_back([65, 32], "marks", "A=20=\n")
        self.there_and_back([65, 32, 10, 32, 66, 10, 32, 10], "marks", "A=20\n B\n=20\n")
        self.there_and_back([10, 32], "marks", "\n=20=\n")

    def test_lines_of_71_72_and_73_signs(self):
        self.there_and_back([65] * 71 + [10], "marks", "A" * 71 + "\n")
        self.there_and_back([65] * 72 + [10], "marks", "A" * 71 + "=\nA\n")
        self.there_and_back([65] * 73 + [10], "marks", "A" * 71 + "=\nAA\n")
        self.there_and_back([65] * 142 + [10], "marks", "A" * 71 + "=\n" + "A" * 71 + "\n")
        self.there_and_back([65] * 143 + [10], "marks", "A" * 71 + "=\n" + "A" * 71 + "=\nA\n")
        self.there_and_back([65] * 71, "marks", "A" * 71 + "=\n")
        self.there_and_back([65] * 72, "marks", "A" * 71 + "=\nA=\n")
        self.there_and_back([65] * 142, "marks", "A" * 71 + "=\n" + "A" * 71 + "=\n")

    def test_units_of_three_signs_are_not_parted(self):
        for ahead, first in [
            (67, "A" * 67 + "=80"), (68, "A" * 68 + "=80"), (69, "A" * 69), (70, "A" * 70), (71, "A" * 71),
        ]:
            rest = "" if first.endswith("=80") else "=80"
            text = first + ("\n" if rest == "" else "=\n" + rest + "\n")
            self.there_and_back([65] * ahead + [128, 10], "marks", text)
        self.there_and_back([128] * 23 + [10], "marks", "=80" * 23 + "\n")
        self.there_and_back([128] * 23 + [65, 65, 10], "marks", "=80" * 23 + "AA\n")
        self.there_and_back([128] * 24 + [10], "marks", "=80" * 23 + "=\n=80\n")

    def test_blanks_where_a_line_is_cut(self):
        self.there_and_back([65] * 70 + [32, 65, 10], "marks", "A" * 70 + " =\nA\n")
        self.there_and_back([65] * 71 + [32, 65, 10], "marks", "A" * 71 + "=\n A\n")
        self.there_and_back([65] * 70 + [32, 10], "marks", "A" * 70 + "=\n=20\n")
        self.there_and_back([65] * 68 + [32, 10], "marks", "A" * 68 + "=20\n")
        self.there_and_back([32] * 72 + [10], "marks", " " * 71 + "=\n=20\n")

    def test_there_and_back(self):
        for octets in samples_of_octets():
            self.there_and_back(octets, "marks", marks_by_the_words(octets))

    def test_no_line_has_more_than_72_signs(self):
        for octets in samples_of_octets():
            for line in written_by(octets, "marks").split("\n"):
                self.assertLessEqual(len(line), 72)

    def test_blanks_ahead_of_a_line_feed_are_none(self):
        self.assertEqual(read_by("A \n", "marks"), [65, 10])
        self.assertEqual(read_by("A   \n  B\n", "marks"), [65, 10, 32, 32, 66, 10])
        self.assertEqual(read_by("  \n", "marks"), [10])
        self.assertEqual(read_by("=20  \n", "marks"), [32, 10])
        self.assertEqual(read_by("=\n  \n", "marks"), [10])

    def test_equals_sign_ahead_of_a_line_feed_is_none(self):
        self.assertEqual(read_by("=\n", "marks"), [])
        self.assertEqual(read_by("A=\nB\n", "marks"), [65, 66, 10])
        self.assertEqual(read_by("A=   \nB\n", "marks"), [65, 66, 10])
        self.assertEqual(read_by("A  =\nB\n", "marks"), [65, 32, 32, 66, 10])
        self.assertEqual(read_by("A =  \n B\n", "marks"), [65, 32, 32, 66, 10])
        self.assertEqual(read_by("=\n=\n=  \n\n", "marks"), [10])

    def test_figures_of_sixteen(self):
        for octet in range(256):
            for figures in [format(octet, "02X"), format(octet, "02x"), format(octet, "02x").title()]:
                self.assertEqual(read_by("=" + figures + "\n", "marks"), [octet, 10])
        for text in ["=aF", "=Af", "=af", "=AF"]:
            self.assertEqual(read_by(text + "\n", "marks"), [175, 10])
        self.assertEqual(read_by("=3D41\n", "marks"), [61, 52, 49, 10])

    def test_signs_stand_for_themselves(self):
        signs = SIGNS.replace("=", "")
        self.assertEqual(read_by(signs * 10 + "\n", "marks"), signs_of(signs * 10 + "\n"))
        self.assertEqual(read_by("_\n", "marks"), [95, 10])

    def test_great(self):
        self.assertEqual(read_by("=41" * 19999 + "\n", "marks"), [65] * 19999 + [10])
        self.assertEqual(read_by(" " * 59999 + "\n", "marks"), [10])
        self.assertEqual(read_by(" " * 59998 + "A\n", "marks"), [32] * 59998 + [65, 10])

    def test_signs_behind_an_equals_sign(self):
        for sign in SIGNS:
            for ahead in ["", "A ", "=41", "=\n", "A\n"]:
                if sign not in "0123456789ABCDEFabcdef ":
                    self.no_code(len(ahead) + 1, read_by, ahead + "=" + sign + "0\n", "marks")
                if sign not in "0123456789ABCDEFabcdef":
                    self.no_code(len(ahead) + 2, read_by, ahead + "=4" + sign + "\n", "marks")
        self.no_code(2, read_by, "=4\n", "marks")

    def test_signs_behind_an_equals_sign_and_blanks(self):
        for sign in SIGNS.replace(" ", ""):
            self.no_code(2, read_by, "= " + sign + "\n", "marks")
            self.no_code(5, read_by, "A=   " + sign + "\n", "marks")

    def test_ends_too_soon(self):
        for text in ["A", "=", "=4", "=41", "= ", "=   ", "A  ", "A\nB", "\n=", "=\n=4", " "]:
            self.no_code(len(text), read_by, text, "marks")


class AsTheWordsSayTest(CodesCase):
    def read_all(self, signs, size, code):
        for many in range(size + 1):
            for row in itertools.product(signs, repeat=many):
                text = "".join(row)
                if is_read(text, code):
                    self.assertEqual(read_by(text, code), read_by_the_words(text, code), ascii(text))
                else:
                    self.no_code(refused_at(text, code), read_by, text, code)

    def test_plain(self):
        self.read_all("A= \n", 5, "plain")

    def test_sixes(self):
        self.read_all("ABE=- \n", 5, "sixes")
        self.read_all("AB=\n", 7, "sixes")

    def test_marks(self):
        self.read_all("4bG= \n", 6, "marks")

    def test_what_is_written_is_read_to_the_same(self):
        for octets in samples_of_octets():
            for code in CODES:
                try:
                    text = written_by(octets, code)
                except NoCode as refusal:
                    self.assertEqual((code, refusal.at), ("plain", 0))
                else:
                    self.assertEqual(read_by(text, code), octets)
                    self.assertTrue(text == "" or text.endswith("\n"))

    def test_what_is_told_may_be_handed_in_again(self):
        octets = read_by("=80" * 19999 + "\n", "marks")
        for code in ["sixes", "marks"]:
            self.assertEqual(read_by(written_by(octets, code), code), octets)
        self.assertEqual(best(octets), "sixes")


class BestTest(CodesCase):
    def test_plain_where_it_goes(self):
        for text in ["", "\n", "A\n", "=\n", " \n", "A" * 72 + "\n", ("A" * 72 + "\n") * 4]:
            self.assertEqual(best(signs_of(text)), "plain")

    def test_marks_have_fewer_signs(self):
        for octets in [[65], [65] * 2, [65] * 73 + [10], [65] * 12 + [9], [61] + [65] * 15 + [10, 32]]:
            self.assertLess(len(written_by(octets, "marks")), len(written_by(octets, "sixes")))
            self.assertEqual(best(octets), "marks")

    def test_sixes_have_fewer_signs(self):
        for octets in [[128] * 3, [0] * 100, [65] * 30 + [200] * 10, list(range(256))]:
            self.assertLess(len(written_by(octets, "sixes")), len(written_by(octets, "marks")))
            self.assertEqual(best(octets), "sixes")

    def test_both_have_as_many(self):
        for octets in [[65] * 3, [128], [9], [32], [0], [65] * 8 + [9]]:
            self.assertEqual(len(written_by(octets, "sixes")), len(written_by(octets, "marks")))
            self.assertEqual(best(octets), "marks")

    def test_plain_goes_ahead_of_fewer_signs(self):
        self.assertEqual(best([10]), "plain")
        self.assertEqual(best([61, 61, 61, 10]), "plain")

    def test_octets_that_plain_cannot_write(self):
        for octets in NO_PLAIN:
            self.assertNotEqual(best(octets), "plain")

    def test_as_the_words_say(self):
        equal = 0
        for octets in samples_of_octets():
            sizes = [len(written_by(octets, code)) for code in ["sixes", "marks"]]
            try:
                written_by(octets, "plain")
                wanted = "plain"
            except NoCode:
                wanted = "sixes" if sizes[0] < sizes[1] else "marks"
                equal += sizes[0] == sizes[1]
            self.assertEqual(best(octets), wanted)
        self.assertGreater(equal, 5)


if __name__ == "__main__":
    unittest.main()
