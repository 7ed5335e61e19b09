import base64
import copy
import inspect
import itertools
import random
import re
import unittest

from foldletter import sayings
from foldletter.errors import LetterError, NoOctets, NoSaying, NoText
from foldletter.sayings import coded, decoded, octets_of, saying_of

from tests.samples import FIGURES, LETTERS, NO_LISTS, NO_OCTETS, NO_TEXTS, NO_WHOLES, SIGNS, TORN_TEXTS, signs_of

NO_SAYINGS = [
    *NO_LISTS, (65,), [31], [0], [10], [-1], [65536], [65, 31], [31, 65], [65, 65536, 65], [10 ** 20], [-65], [[65]],
    *[[value] for value in NO_WHOLES], *[[65, value, 65] for value in NO_WHOLES],
]

MARK = re.compile("_|[A-Za-z0-9]|=[0-9A-F]{2}")


def octets_by_unicode(saying):
    return list("".join(map(chr, saying)).encode("utf-8", "surrogatepass"))


def saying_by_unicode(octets):
    """The saying of octets, or None, by Python's own way."""
    try:
        saying = signs_of(bytes(octets).decode("utf-8", "surrogatepass"))
    except UnicodeDecodeError:
        return None
    return saying if all(32 <= sign <= 65535 for sign in saying) else None


def sixes_by_base64(octets):
    return base64.b64encode(bytes(octets)).decode("ascii")


def marks_by_the_words(octets):
    told = ""
    for octet in octets:
        if octet == 32:
            told += "_"
        elif chr(octet) in LETTERS + FIGURES:
            told += chr(octet)
        else:
            told += "=" + format(octet, "02X")
    return told


WRITERS = {"s": sixes_by_base64, "m": marks_by_the_words}


def word_by(saying, sort):
    return "=?" + sort + "?" + WRITERS[sort](octets_by_unicode(saying)) + "?="


def words_by(saying, sort):
    """The value by coded words of a sort, each found by trying from the longest on."""
    words = []
    while saying:
        # No sign takes less than one of the word's signs.
        sizes = range(min(len(saying), 60), 0, -1)
        many = next(many for many in sizes if len(word_by(saying[:many], sort)) <= 60)
        words.append(word_by(saying[:many], sort))
        saying = saying[many:]
    return " ".join(words)


def coded_by_the_words(saying):
    text = "".join(map(chr, saying))
    if all(sign in SIGNS for sign in text) and text == text.strip(" ") and "=?" not in text:
        return text
    marks, sixes = words_by(saying, "m"), words_by(saying, "s")
    return marks if len(marks) <= len(sixes) else sixes


def inner_octets(sort, inner):
    """The octets that a coded word's inner signs tell, or None."""
    if sort == "s":
        try:
            return list(base64.b64decode(inner, validate=True))
        except ValueError:
            return None
    units = MARK.findall(inner)
    if "".join(units) != inner:
        return None
    return [int(unit[1:], 16) if unit[0] == "=" else ord(unit.replace("_", " ")) for unit in units]


def saying_of_word_by_the_words(word):
    match = re.fullmatch(r"=\?([sm])\?(.+)\?=", word)
    if not match:
        return None
    octets = inner_octets(*match.groups())
    if octets is None or WRITERS[match.group(1)](octets) != match.group(2):
        return None
    return saying_by_unicode(octets)


def decoded_by_the_words(value):
    cut = re.split("( +)", value)
    told = [saying_of_word_by_the_words(piece) for piece in cut]
    saying = []
    for number, piece in enumerate(cut):
        if told[number] is not None:
            saying.extend(told[number])
        elif not (number % 2 == 1 and told[number - 1] is not None and told[number + 1] is not None):
            saying.extend(signs_of(piece))
    return saying


def samples_of_sayings():
    """Sayings of all sizes up to 200, of several mixtures."""
    chance = random.Random(8)
    mixtures = [
        [65, 66, 32], [37], [61, 63, 65], [32], [228, 65], [228], [8364, 65, 32], [8364], [65, 228, 8364, 32], [32, 95],
        range(32, 65536), range(32, 300), range(32, 127), [127, 128, 2047, 2048, 65535], [63, 61],
        [48, 57, 90, 122, 97, 64],
    ]
    for mixture in mixtures:
        for size in [*range(0, 64), 80, 100, 120, 199, 200]:
            yield [chance.choice(mixture) for _ in range(size)]


class SayingsCase(unittest.TestCase):
    def refused(self, kind, call, *args, **more):
        with self.assertRaises(LetterError) as caught:
            call(*args, **more)
        self.assertIs(caught.exception.__class__, kind)
        return caught.exception

    def no_saying(self, at, call, *args, **more):
        self.assertEqual(self.refused(NoSaying, call, *args, **more).at, at)

    def there_and_back(self, saying, value):
        self.assertEqual(coded(saying), value)
        self.assertEqual(decoded(value), saying)


class InterfaceTest(SayingsCase):
    def test_the_parameters(self):
        wanted = [(octets_of, "saying"), (saying_of, "octets"), (coded, "saying"), (decoded, "value")]
        for function, name in wanted:
            self.assertTrue(inspect.isfunction(function))
            self.assertEqual(list(inspect.signature(function).parameters), [name])
            self.assertEqual(function.__module__, sayings.__name__)

    def test_by_name(self):
        self.assertEqual(octets_of(saying=[65]), [65])
        self.assertEqual(saying_of(octets=[65]), [65])
        self.assertEqual(coded(saying=[65]), "A")
        self.assertEqual(decoded(value="A"), [65])

    def test_refused_by_name(self):
        self.no_saying(0, octets_of, saying=None)
        self.refused(NoOctets, saying_of, octets=None)
        self.no_saying(0, coded, saying=None)
        self.refused(NoText, decoded, value=None)

    def test_kinds_of_what_is_told(self):
        for told in [octets_of([65, 228]), saying_of([65, 195, 164]), decoded("A =?m?=C3=A4?= =?s?w6Q=?=")]:
            self.assertIs(told.__class__, list)
            self.assertEqual({number.__class__ for number in told}, {int})
        self.assertIs(coded([65]).__class__, str)
        self.assertIs(coded([228]).__class__, str)

    def test_what_is_told_is_new(self):
        for call, given in [
            (octets_of, []), (octets_of, [65]), (octets_of, [65, 228]), (saying_of, []), (saying_of, [65]),
            (decoded, ""), (decoded, "A"), (decoded, "=?m?A?="), (decoded, "=?m?A?= =?m?B?="),
        ]:
            told = call(given)
            wanted = list(told)
            self.assertIsNot(told, given)
            told.append(7)
            self.assertEqual(call(given), wanted)
            if isinstance(given, list):
                self.assertNotIn(7, given)

    def test_nothing_handed_in_is_changed(self):
        for given in [[], [65], [228, 8364, 32], [32] * 90, [65, 228, 61, 63] * 50]:
            kept = copy.copy(given)
            octets_of(given)
            coded(given)
            self.assertEqual(given, kept)
        for given in [[], [65], [195, 164], [65, 195, 65], [31]]:
            kept = copy.copy(given)
            try:
                saying_of(given)
            except NoSaying:
                self.assertIn(given, [[65, 195, 65], [31]])
            self.assertEqual(given, kept)


class OctetsTest(SayingsCase):
    def test_the_edges(self):
        for sign, octets in [
            (32, [32]), (126, [126]), (127, [127]), (128, [194, 128]), (2047, [223, 191]), (2048, [224, 160, 128]),
            (65535, [239, 191, 191]), (228, [195, 164]), (8364, [226, 130, 172]), (55296, [237, 160, 128]), (37, [37]),
        ]:
            self.assertEqual(octets_of([sign]), octets)
            self.assertEqual(saying_of(octets), [sign])

    def test_no_signs(self):
        self.assertEqual(octets_of([]), [])
        self.assertEqual(saying_of([]), [])

    def test_one_behind_the_other(self):
        saying = [65, 128, 2048, 127, 65535, 2047, 32]
        octets = [65, 194, 128, 224, 160, 128, 127, 239, 191, 191, 223, 191, 32]
        self.assertEqual(octets_of(saying), octets)
        self.assertEqual(saying_of(octets), saying)

    def test_each_sign_there_and_back(self):
        saying = list(range(32, 65536))
        octets = octets_of(saying)
        self.assertEqual(octets, octets_by_unicode(saying))
        self.assertEqual(saying_of(octets), saying)

    def test_an_octet_below_32(self):
        for octet in range(32):
            self.no_saying(0, saying_of, [octet])
            self.no_saying(2, saying_of, [65, 66, octet, 67])
            self.no_saying(2, saying_of, [195, 164, octet])

    def test_one_that_only_goes_on(self):
        for octet in range(128, 192):
            self.no_saying(0, saying_of, [octet])
            self.no_saying(1, saying_of, [65, octet])
            self.no_saying(2, saying_of, [195, 164, octet])
            self.no_saying(3, saying_of, [226, 130, 172, octet])

    def test_cut_off_at_the_end(self):
        for octets in [[194], [223], [224], [224, 160], [239], [239, 191], [226], [226, 130]]:
            self.no_saying(0, saying_of, octets)
            self.no_saying(1, saying_of, [65, *octets])
            self.no_saying(4, saying_of, [195, 164, 195, 164, *octets])

    def test_followed_by_another_one(self):
        self.no_saying(1, saying_of, [65, 195, 65])
        self.no_saying(0, saying_of, [195, 65])
        for octet in [32, 65, 127, 192, 194, 223, 224, 239, 255, 0]:
            for octets in [[194, octet], [226, octet, 172], [226, 130, octet], [226, octet], [224, octet, 128]]:
                self.no_saying(0, saying_of, octets)
                self.no_saying(3, saying_of, [65, 66, 67, *octets, 65])

    def test_more_octets_than_it_wants(self):
        for octets in [
            [192, 128], [192, 160], [193, 191], [193, 129], [224, 128, 128], [224, 129, 129], [224, 159, 191],
        ]:
            self.no_saying(0, saying_of, octets)
            self.no_saying(1, saying_of, [65, *octets])

    def test_a_number_beyond_65535(self):
        for octets in [
            [240, 144, 128, 128], [240, 128, 128], [240], [255, 191, 191], [247, 191, 191], [248, 128, 128], [255],
        ]:
            self.no_saying(0, saying_of, octets)
            self.no_saying(2, saying_of, [65, 65, *octets])

    def test_as_the_words_say(self):
        octets = [31, 32, 65, 127, 128, 159, 160, 191, 192, 193, 194, 223, 224, 239, 240, 255]
        for size in range(5):
            for row in map(list, itertools.product(octets, repeat=size)):
                wanted = saying_by_unicode(row)
                if wanted is not None:
                    self.assertEqual(saying_of(row), wanted)
                    self.assertEqual(octets_of(wanted), row)
                else:
                    beginnings = [many for many in range(size) if saying_by_unicode(row[:many]) is not None]
                    self.no_saying(max(beginnings), saying_of, row)

    def test_no_saying(self):
        for value in NO_SAYINGS:
            with self.subTest(value=value):
                self.no_saying(0, octets_of, value)
                self.no_saying(0, coded, value)

    def test_no_octets(self):
        for value in NO_OCTETS:
            with self.subTest(value=value):
                self.refused(NoOctets, saying_of, value)


class CodedTest(SayingsCase):
    def test_texts_as_they_stand(self):
        for text in ["A", "a day at the sea", "a  b", "=", "?=", "= ?", "x?", "\"(\\", "=s?QQ?=", SIGNS[1:], "~" * 200]:
            self.there_and_back(signs_of(text), text)

    def test_no_signs(self):
        self.there_and_back([], "")

    def test_each_sign_of_a_text(self):
        for sign in SIGNS[1:]:
            self.there_and_back([ord(sign)], sign)

    def test_blanks_at_the_begin_or_the_end(self):
        self.there_and_back([32], "=?m?_?=")
        self.there_and_back([32, 65], "=?m?_A?=")
        self.there_and_back([65, 32], "=?m?A_?=")
        self.there_and_back([32, 32], "=?m?__?=")
        self.there_and_back([65, 32, 65], "A A")

    def test_equals_and_question_sign_in_it(self):
        self.there_and_back(signs_of("=?"), "=?s?PT8=?=")
        self.there_and_back(signs_of("a=?"), "=?s?YT0/?=")
        self.there_and_back(signs_of("abcd efg=?"), "=?m?abcd_efg=3D=3F?=")
        self.there_and_back(signs_of("=?s?QQ==?="), coded_by_the_words(signs_of("=?s?QQ==?=")))
        self.there_and_back(signs_of("=?m?A?="), coded_by_the_words(signs_of("=?m?A?=")))

    def test_the_sign_37(self):
        self.there_and_back([37], "=?m?=25?=")
        self.there_and_back([65, 37, 66], "=?s?QSVC?=")
        self.there_and_back([65, 66, 37, 66], "=?m?AB=25B?=")

    def test_signs_beyond_126(self):
        self.there_and_back([127], "=?m?=7F?=")
        self.there_and_back([228], "=?s?w6Q=?=")
        self.there_and_back([65, 228], "=?s?QcOk?=")
        self.there_and_back([65] * 6 + [228], "=?m?AAAAAA=C3=A4?=")
        self.there_and_back([8364], "=?s?4oKs?=")

    def test_each_octet_below_128_by_marks(self):
        for sign in range(32, 128):
            inner = marks_by_the_words([sign])
            self.there_and_back([37] + [65] * 14 + [sign] + [65] * 14, "=?m?=25" + "A" * 14 + inner + "A" * 14 + "?=")

    def test_fewer_signs_by_sixes(self):
        self.there_and_back([228] * 3, "=?s?w6TDpMOk?=")
        self.there_and_back([228] * 19, "=?s?" + sixes_by_base64([195, 164] * 19) + "?=")

    def test_as_many_signs_by_both(self):
        for saying in [[65, 37], [37, 37, 65, 65], [65] * 5 + [37], [32, 61, 32, 61]]:
            self.assertEqual(len(word_by(saying, "m")), len(word_by(saying, "s")))
            self.there_and_back(saying, word_by(saying, "m"))

    def test_marks_take_as_many_signs_as_go(self):
        for many in range(1, 54):
            self.there_and_back([32] + [65] * many, "=?m?_" + "A" * many + "?=")
        self.there_and_back([32] + [65] * 54, "=?m?_" + "A" * 53 + "?= =?m?A?=")
        self.there_and_back([32] + [65] * 107, "=?m?_" + "A" * 53 + "?= =?m?" + "A" * 54 + "?=")
        self.there_and_back([32] + [65] * 108, "=?m?_" + "A" * 53 + "?= =?m?" + "A" * 54 + "?= =?m?A?=")

    def test_marks_of_two_and_three_octets(self):
        # Six signs of a word for the first, nine for the second.
        for sign, inner in [(228, "=C3=A4"), (8364, "=E2=82=AC")]:
            room = 54 - len(inner)
            for many in range(room - 3, room + 1):
                self.there_and_back([65] * many + [sign], "=?m?" + "A" * many + inner + "?=")
            for many in range(room + 1, 55):
                self.there_and_back([65] * many + [sign], "=?m?" + "A" * many + "?= =?m?" + inner + "?=")

    def test_sixes_take_as_many_signs_as_go(self):
        # By sixes a word has room for 39 octets.
        self.there_and_back([228] * 20, "=?s?" + sixes_by_base64([195, 164] * 19) + "?= =?s?w6Q=?=")
        self.there_and_back([65] + [228] * 19, "=?s?" + sixes_by_base64([65] + [195, 164] * 19) + "?=")
        self.there_and_back([8364] * 13, "=?s?" + "4oKs" * 13 + "?=")
        self.there_and_back([8364] * 14, "=?s?" + "4oKs" * 13 + "?= =?s?4oKs?=")
        self.there_and_back([65] + [8364] * 13, "=?s?" + sixes_by_base64([65] + [226, 130, 172] * 12) + "?= =?s?4oKs?=")

    def test_no_word_has_more_than_60_signs_nor_room_for_one_more(self):
        for saying in samples_of_sayings():
            value = coded(saying)
            if value.startswith("=?"):
                words = value.split(" ")
                self.assertLessEqual(max(map(len, words)), 60)
                self.assertEqual({word[:4] for word in words}, {words[0][:4]})
                for one, two in zip(words, words[1:]):
                    more = decoded(one) + decoded(two)[:1]
                    self.assertGreater(len(word_by(more, one[2])), 60)

    def test_as_the_words_say(self):
        for saying in samples_of_sayings():
            self.there_and_back(saying, coded_by_the_words(saying))

    def test_short_sayings_as_the_words_say(self):
        for size in range(5):
            for saying in map(list, itertools.product([32, 65, 61, 63, 37, 228, 8364], repeat=size)):
                self.there_and_back(saying, coded_by_the_words(saying))

    def test_what_is_told_may_be_handed_in_again(self):
        saying = decoded("a =?" * 14000)
        self.assertEqual(decoded(coded(saying)), saying)
        saying = saying_of([195, 164] * 10000)
        self.assertEqual(decoded(coded(saying)), saying)


class DecodedTest(SayingsCase):
    def tells(self, value, saying):
        wanted = signs_of(saying) if isinstance(saying, str) else saying
        # No assertEqual: to show how great lists differ takes minutes.
        self.assertTrue(decoded(value) == wanted, value[:200])

    def stands_for_its_signs(self, value):
        self.tells(value, value)

    def test_coded_words_alone(self):
        self.tells("=?s?QQ==?=", "A")
        self.tells("=?s?QUI=?=", "AB")
        self.tells("=?s?QUJD?=", "ABC")
        self.tells("=?m?A?=", "A")
        self.tells("=?m?A_B=3F=3D=5F=25=2D?=", "A B?=_" + chr(37) + "-")
        self.tells("=?s?w6Q=?=", [228])
        self.tells("=?m?=C3=A4?=", [228])
        self.tells("=?m?=E2=82=AC?=", [8364])

    def test_several_with_blanks_between(self):
        self.tells("=?m?A?= =?m?B?=", "AB")
        self.tells("=?m?A?=    =?s?Qg==?= =?m?C?=", "ABC")
        self.tells("=?m?A_?= =?m?_B?=", "A  B")

    def test_amid_other_words(self):
        self.tells("a =?m?A?= b", "a A b")
        self.tells("a  =?m?A?=   =?m?B?=  b", "a  AB  b")
        self.tells("=?m?A?= b =?m?C?=", "A b C")
        self.tells("a =?m?B?=", "a B")
        self.tells("=?m?A?= b", "A b")

    def test_blanks_at_the_begin_and_the_end(self):
        self.tells(" ", " ")
        self.tells("   ", "   ")
        self.tells(" a  b ", " a  b ")
        self.tells(" =?m?A?=", " A")
        self.tells("=?m?A?=  ", "A  ")
        self.tells("  =?m?A?= =?m?B?= ", "  AB ")

    def test_no_signs(self):
        self.tells("", "")

    def test_other_signs_beside_a_coded_word(self):
        for value in ["a=?m?A?=", "=?m?A?=a", "=?m?A?=,", "(=?m?A?=)", "\"=?m?A?=\"", "=?m?A?==?m?B?="]:
            self.stands_for_its_signs(value)
            self.tells("=?m?A?= " + value, "A " + value)

    def test_another_letter_for_the_sort(self):
        for letter in SIGNS:
            if letter not in "sm ":
                self.stands_for_its_signs("=?" + letter + "?QUJD?=")
        for value in ["=??QUJD?=", "=?ss?QUJD?=", "=?sm?QUJD?=", "=? m?A?=", "=?m ?A?=", "=?m?A ?="]:
            self.stands_for_its_signs(value)

    def test_no_sign_between(self):
        for value in ["=?s??=", "=?m??=", "=?s?=", "=?m?=", "=?s?", "=?m?", "=?s", "=?", "?=", "=", "?", "=?="]:
            self.stands_for_its_signs(value)

    def test_not_whole(self):
        for value in ["=?m?A?", "=?m?A=", "=?m?A", "?m?A?=", "=m?A?=", "=?mA?=", "=?m?A??=", "=?m??A?=", "=?s?QQ==?"]:
            self.stands_for_its_signs(value)

    def test_small_figures_of_sixteen(self):
        self.stands_for_its_signs("=?m?=c3=a4?=")
        self.stands_for_its_signs("=?m?=C3=a4?=")
        self.stands_for_its_signs("=?m?=3f?=")

    def test_needless_units(self):
        for octet in range(256):
            value = "=?m?=" + format(octet, "02X") + "?="
            if octet >= 128 or octet < 32 or chr(octet) in LETTERS + FIGURES + " ":
                self.stands_for_its_signs(value)
            else:
                self.tells(value, [octet])

    def test_signs_that_marks_do_not_write(self):
        for sign in SIGNS:
            value = "=?m?a" + sign + "b?="
            if sign in LETTERS + FIGURES:
                self.tells(value, "a" + sign + "b")
            elif sign == "_":
                self.tells(value, "a b")
            else:
                self.stands_for_its_signs(value)
        for value in ["=?m?=?=", "=?m?A=?=", "=?m?=4?=", "=?m?A=4?=", "=?m?=4G?=", "=?m?==3F?="]:
            self.stands_for_its_signs(value)

    def test_sixes_filled_up_otherwise(self):
        for value in [
            "=?s?QR==?=", "=?s?QUJ=?=", "=?s?QQ=?=", "=?s?QQ?=", "=?s?Q?=", "=?s?QUI?=", "=?s?QUJDQ?=", "=?s?QQ===?=",
            "=?s?=?=", "=?s?====?=", "=?s?QUJD====?=", "=?s?QQ==QQ==?=", "=?s?QU=I?=", "=?s?Q===?=", "=?s?QUI==?=",
        ]:
            self.stands_for_its_signs(value)

    def test_signs_that_sixes_do_not_write(self):
        for sign in SIGNS:
            if sign not in LETTERS + FIGURES + "+/":
                self.stands_for_its_signs("=?s?QU" + sign + "D?=")

    def test_octets_that_tell_no_saying(self):
        for octets in [
            [31], [0], [10], [128], [195], [195, 65], [65, 195, 65], [192, 160], [240, 144, 128, 128], [224, 160],
        ]:
            for sort in "sm":
                self.stands_for_its_signs("=?" + sort + "?" + WRITERS[sort](octets) + "?=")

    def test_blanks_beside_what_is_nearly_a_coded_word(self):
        self.tells("=?m?A?= =?m?=c3?= =?m?B?=", "A =?m?=c3?= B")
        self.tells("=?m?A?=  =?s?QR==?=", "A  =?s?QR==?=")
        self.tells("=?x?A?= =?m?A?=", "=?x?A?= A")

    def test_longer_than_60_signs(self):
        self.tells("=?m?" + "A" * 55 + "?=", "A" * 55)
        self.tells("=?m?" + "=C3=A4" * 3000 + "?=", [228] * 3000)
        self.tells("=?s?" + "QUJD" * 10000 + "?=", "ABC" * 10000)

    def test_great(self):
        self.tells("a" * 60000, "a" * 60000)
        self.tells(" " * 60000, " " * 60000)
        self.tells("=?m?A?= " * 7500, "A" * 7500 + " ")

    def test_each_sign(self):
        self.stands_for_its_signs(SIGNS)
        self.stands_for_its_signs(SIGNS[::-1])

    def test_no_text_without_line_feeds(self):
        for value in [
            *NO_TEXTS, *TORN_TEXTS, "\n", "a\n", "\na", "a\nb", "=?m?A?=\n", "=?m?A\n?=", "=?s?QUJD\n?=", "=?m?A=\n?=",
        ]:
            with self.subTest(value=ascii(value)):
                self.refused(NoText, decoded, value)

    def test_as_the_words_say(self):
        pieces = ["=?m?A?=", "=?s?QQ==?=", "=?m?=C3?=", "a", " ", "  ", "=?"]
        for size in range(6):
            for row in itertools.product(pieces, repeat=size):
                value = "".join(row)
                self.assertEqual(decoded(value), decoded_by_the_words(value), value)

    def test_inner_signs_as_the_words_say(self):
        for sort, signs in [("m", "a_=4D3 "), ("s", "QUI=/wA")]:
            for size in range(6):
                for row in itertools.product(signs, repeat=size):
                    value = "=?" + sort + "?" + "".join(row) + "?="
                    self.assertEqual(decoded(value), decoded_by_the_words(value), value)


if __name__ == "__main__":
    unittest.main()
