import inspect
import random
import re
import unittest

from foldletter import sealing
from foldletter.changing import done, drop_head, put_body, put_head
from foldletter.errors import NoLetter, NoSeal
from foldletter.letters import is_sound, read_letter
from foldletter.mending import mended
from foldletter.sealing import form, holds, seal, sum_by

from tests import oracle
from tests.cases import RefusedCase
from tests.makers import NAMES, some_part
from tests.samples import NO_LISTS, NO_TEXTS, NO_WHOLES, TORN_TEXTS, signs_of

GREATEST = 2147483646
LEAF = "Subject: a  day\n  at sea\nFrom: ann\nKind: x/y\nSUBJECT: b\n\nA  b  \n\n c \n\n  \n"

NO_NAMES = [
    *NO_LISTS, ("A",), "A", {"A": 1}, [[]], [["A"]], [("A",)], [b"A"], [""], ["1"], ["-a"], ["a b"],
    ["a:"], [" a"], ["a" * 31], ["a\n"], *[[value] for value in [*NO_TEXTS, *TORN_TEXTS]],
    *[["A", value, "B"] for value in [*NO_TEXTS, *TORN_TEXTS]], ["A", "A"], ["A", "a"], ["A", "B", "a"], ["Seal"],
    ["seal"],
    ["SEAL"], ["A", "sEaL"], ["A", "Seal", "Seal"],
]
NO_KEYS = [*NO_WHOLES, -1, GREATEST + 1, GREATEST + 2, 10 ** 20, -10 ** 20]


def form_by_the_words(text, names):
    heads, place = oracle.cut_heads(text)
    told = ""
    for name in names:
        for known, value, _, _ in heads:
            if known.lower() == name.lower():
                told += name.lower() + ":" + re.sub(" +", " ", value) + "\n"
    body = re.sub(" +\n", "\n", text[place + 1:])
    return told + "\n" + re.sub("(^|\n)\n+$", r"\1", body)


def sum_by_the_words(told, key):
    total = key
    for place, sign in enumerate(told):
        total = total * 257 + ord(sign) + 1
        if place % 50 == 0:
            total -= total // 2147483647 * 2147483647
    return total % 2147483647


class SealingCase(RefusedCase):
    def sealed(self, text, names, key):
        return done(text, seal(text, names, key))


class InterfaceTest(SealingCase):
    def test_the_parameters(self):
        for function, names in [(form, ["text", "names"]), (sum_by, ["text", "names", "key"]),
                                (seal, ["text", "names", "key"]), (holds, ["text", "key"])]:
            self.assertTrue(inspect.isfunction(function))
            self.assertEqual(list(inspect.signature(function).parameters), names)
            self.assertEqual(function.__module__, sealing.__name__)

    def test_by_name(self):
        self.assertEqual(form(names=["A"], text="A: b\n\n"), "a:b\n\n")
        self.assertEqual(sum_by(key=0, names=[], text="\n"), 11)
        self.assertEqual(seal(key=0, names=[], text="\n"), (0, 0, "Seal: ;11\n"))
        self.assertIs(holds(key=0, text="Seal: ;11\n\n"), True)
        self.assertIs(holds(key=1, text="Seal: ;11\n\n"), False)

    def test_kinds_of_what_is_told(self):
        self.assertIs(form(LEAF, []).__class__, str)
        self.assertIs(sum_by(LEAF, [], 5).__class__, int)
        self.assertEqual([thing.__class__ for thing in seal(LEAF, [], 5)], [int, int, str])
        self.assertIs(seal(LEAF, [], 5).__class__, tuple)

    def test_nothing_handed_in_is_changed(self):
        names = ["SUBJECT", "From"]
        form(LEAF, names)
        sum_by(LEAF, names, 0)
        seal(LEAF, names, 0)
        self.assertEqual(names, ["SUBJECT", "From"])


class FormTest(SealingCase):
    def test_no_names(self):
        self.assertEqual(form("\n", []), "\n")
        self.assertEqual(form("A: b\n\n", []), "\n")
        self.assertEqual(form("A: b\n\nc\n", []), "\nc\n")

    def test_heads(self):
        self.assertEqual(form(LEAF, ["From"]), "from:ann\n\nA  b\n\n c\n")
        self.assertEqual(form(LEAF, ["Subject", "From"]), "subject:a day at sea\nsubject:b\nfrom:ann\n\nA  b\n\n c\n")
        self.assertEqual(form(LEAF, ["From", "Subject"]), "from:ann\nsubject:a day at sea\nsubject:b\n\nA  b\n\n c\n")

    def test_names_in_whatever_letters(self):
        for names in [["from"], ["FROM"], ["fRoM"]]:
            self.assertEqual(form(LEAF, names), "from:ann\n\nA  b\n\n c\n")

    def test_a_name_that_stands_never_once_and_twice(self):
        self.assertEqual(form("A: b\nB: c\na: d\n\n", ["C"]), "\n")
        self.assertEqual(form("A: b\nB: c\na: d\n\n", ["B"]), "b:c\n\n")
        self.assertEqual(form("A: b\nB: c\na: d\n\n", ["A"]), "a:b\na:d\n\n")
        self.assertEqual(form("A: b\nB: c\na: d\n\n", ["C", "B", "A"]), "b:c\na:b\na:d\n\n")

    def test_kind_and_code_are_heads_in_the_text(self):
        self.assertEqual(form("KIND:  x/y;  n=1\nCode: Sixes\n\nQQ==\n", ["Code", "kind"]),
                         "code:Sixes\nkind:x/y; n=1\n\nQQ==\n")

    def test_no_value(self):
        self.assertEqual(form("A:\nB:   \n\n", ["A", "B"]), "a:\nb:\n\n")

    def test_blanks_in_rows(self):
        self.assertEqual(form("A:   b  c   d e\n\n", ["A"]), "a:b c d e\n\n")
        self.assertEqual(form("A: b\n  c\n    \n d\n\n", ["A"]), "a:b c d\n\n")

    def test_folded_values(self):
        self.assertEqual(form("A: b\n c\n\n", ["A"]), form("A: b c\n\n", ["A"]))
        self.assertEqual(form("A:\n b c\n\n", ["A"]), form("A: b c\n\n", ["A"]))

    def test_blanks_at_the_ends_of_lines(self):
        self.assertEqual(form("\na  \n b   c \n  d\n", []), "\na\n b   c\n  d\n")

    def test_empty_lines_at_the_end(self):
        for end in ["", "\n", "\n\n\n", " \n", "\n  \n\n", "   \n   \n"]:
            self.assertEqual(form("\na\n\nb\n" + end, []), "\na\n\nb\n")
            self.assertEqual(form("\na\n\nb   \n" + end, []), "\na\n\nb\n")

    def test_empty_lines_elsewhere(self):
        self.assertEqual(form("\n\n\na\n\n\nb\n", []), "\n\n\na\n\n\nb\n")

    def test_a_body_of_empty_lines_alone(self):
        for body in ["", "\n", "\n\n\n", " \n", "   \n\n \n"]:
            self.assertEqual(form("\n" + body, []), "\n")
            self.assertEqual(form("A: b\n\n" + body, ["A"]), "a:b\n\n")

    def test_heads_of_parts_are_of_the_body(self):
        text = "A: b\nKind: cover/x\n\nA: c  d\nB: e \n\n"
        self.assertEqual(form(text, ["A", "B"]), "a:b\n\nA: c  d\nB: e\n")
        text = "A: b\nKind: many/x; border=b\n\n--b\nA: c\n\n--b\n\n--b--\n\n"
        self.assertEqual(form(text, ["A"]), "a:b\n\n--b\nA: c\n\n--b\n\n--b--\n")

    def test_the_body_as_it_stands(self):
        self.assertEqual(form("Code: marks\n\n=41=\n B =\n", []), "\n=41=\n B =\n")

    def test_a_seal_is_no_part_of_it(self):
        self.assertEqual(form("Seal: x\nA: b\n\n", ["A"]), "a:b\n\n")

    def test_refused(self):
        self.no_letter(form, [])
        for value in NO_NAMES:
            with self.subTest(value=ascii(value)):
                self.refused(NoSeal, form, LEAF, value)
        self.refused(NoLetter, form, "", None)

    def test_by_chance(self):
        chance = random.Random(30)
        for _ in range(300):
            text = some_part(chance).text()
            names = chance.sample(["Subject", "from", "X-1", "A", "TO", "a" * 30, "kind", "Code", "none"],
                                  k=chance.randint(0, 5))
            told = form_by_the_words(text, names)
            self.assertEqual(form(text, names), told)
            key = chance.choice([0, 1, GREATEST, chance.randint(0, GREATEST)])
            self.assertEqual(sum_by(text, names, key), sum_by_the_words(told, key))


class SumTest(SealingCase):
    def test_sums(self):
        self.assertEqual(sum_by("\n", [], 0), 11)
        self.assertEqual(sum_by("\n", [], 1), 268)
        self.assertEqual(sum_by("\na\n", [], 0), (11 * 257 + 98) * 257 + 11)
        self.assertEqual(sum_by("\n", [], GREATEST), (GREATEST * 257 + 11) % 2147483647)
        self.assertEqual(sum_by("A: b\n\n", ["A"], 7), sum_by_the_words("a:b\n\n", 7))

    def test_keys(self):
        for key in [0, 1, 2147483645, GREATEST]:
            self.assertTrue(0 <= sum_by(LEAF, ["From"], key) <= GREATEST)
        sums = {sum_by(LEAF, ["From"], key) for key in range(200)}
        self.assertEqual(len(sums), 200)

    def test_refused(self):
        self.no_letter(sum_by, [], 0)
        for value in NO_NAMES:
            with self.subTest(value=ascii(value)):
                self.refused(NoSeal, sum_by, LEAF, value, 0)
        for value in NO_KEYS:
            with self.subTest(value=ascii(value)):
                self.refused(NoSeal, sum_by, LEAF, ["From"], value)
        self.refused(NoLetter, sum_by, "x", None, None)


class SealTest(SealingCase):
    def test_a_new_seal(self):
        told = sum_by(LEAF, ["From", "SUBJECT"], 5)
        at = LEAF.index("\n\n") + 1
        self.assertEqual(seal(LEAF, ["From", "SUBJECT"], 5), (at, at, f"Seal: from,subject;{told}\n"))
        self.assertEqual(seal("\n", [], 5), (0, 0, f"Seal: ;{5 * 257 + 11}\n"))

    def test_in_the_place_of_another_seal(self):
        text = "SEAL: x\n y\nA: b\nSeal: ;11\n\n"
        told = sum_by(text, ["A"], 0)
        self.assertEqual(seal(text, ["a"], 0), (0, 11, f"Seal: a;{told}\n"))
        self.assertTrue(holds(done(text, seal(text, ["a"], 0)), 0))

    def test_many_names(self):
        names = [f"X-{number}" for number in range(40)]
        text = self.sealed(LEAF, names, 9)
        self.assertTrue(holds(text, 9))
        self.assertEqual(read_letter(text).heads()[-1][1].partition(";")[0], ",".join(names).lower())

    def test_refused(self):
        self.no_letter(seal, [], 0)
        for value in NO_NAMES:
            with self.subTest(value=ascii(value)):
                self.refused(NoSeal, seal, LEAF, value, 0)
        for value in NO_KEYS:
            with self.subTest(value=ascii(value)):
                self.refused(NoSeal, seal, LEAF, ["From"], value)
        self.refused(NoLetter, seal, "x", None, None)


class HoldsTest(SealingCase):
    TEXT = "Subject: a day at sea\nFrom: ann\nsubject: again\nX: y\n\nA b\n\n c\n"

    def setUp(self):
        self.text = self.sealed(self.TEXT, ["Subject", "from"], 77)

    def kept(self, text):
        self.assertTrue(is_sound(text))
        self.assertIs(holds(text, 77), True)

    def lost(self, text):
        self.assertTrue(is_sound(text))
        self.assertIs(holds(text, 77), False)

    def test_a_sealed_letter(self):
        self.kept(self.text)
        for key in [0, 76, 78, GREATEST]:
            self.assertIs(holds(self.text, key), False)

    def test_sealed_letters_of_each_sort(self):
        chance = random.Random(31)
        for _ in range(150):
            text = some_part(chance).text()
            names = list({name.lower(): name for name in NAMES if name != "Seal" and chance.random() < 0.5}.values())
            key = chance.randint(0, GREATEST)
            self.assertIs(holds(self.sealed(text, names, key), key), True)

    def test_heads_folded_otherwise(self):
        for old, new in [("a day at sea", "a\n day\n at\n  sea"), (": a day", ":a day"), (": a day", ":\n a   day"),
                         ("ann", " ann  "),
                         ("Seal: ", "SEAL:\n  "), ("Subject", "SUBJECT"), ("subject: again", "Subject:again\n "),
                         ("From", "fROM")]:
            self.kept(self.text.replace(old, new, 1))

    def test_other_heads(self):
        self.kept(done(self.text, put_head(self.text, (), "New", "x")))
        self.kept(done(self.text, put_head(self.text, (), "X", "z")))
        self.kept(done(self.text, drop_head(self.text, (), "X")))
        self.kept("New: x\n" + self.text)
        self.kept(self.text.replace("X: y", "Kind: x/y\nCode: plain"))

    def test_their_order_between_unlike_names(self):
        self.kept(self.text.replace("From: ann\n", "", 1).replace("X: y\n", "X: y\nFrom: ann\n"))
        lines = self.text.splitlines(keepends=True)
        self.kept("".join([lines[4], lines[1], lines[0], lines[3], lines[2], *lines[5:]]))

    def test_empty_lines_at_the_end(self):
        for end in ["\n", "\n\n\n", "  \n", " \n\n"]:
            self.kept(self.text + end)

    def test_blanks_at_the_ends_of_lines(self):
        self.kept(self.text.replace("A b\n", "A b  \n").replace(" c\n", " c \n"))

    def test_mended(self):
        self.kept(mended(self.text[:-1]))
        self.kept(mended(self.text.replace("From", "Kind:\nFrom")))

    def test_another_form(self):
        for old, new in [("a day", "a Day"), ("a day", "aday"), ("again", "agai"), ("ann", ""), ("From: ann\n", ""),
                         ("subject: again\n", ""),
                         ("X: y", "From: y"), ("X: y", "X: y\nSubject:"), ("A b", "A  b"), ("A b", " A b"),
                         ("A b\n\n", "A b\n"),
                         ("A b\n", "\nA b\n"), ("A b\n\n", "A b\n\n\n"), (" c\n", " d\n"), (" c\n", " c\nd\n"),
                         (" c\n", "")]:
            self.assertIn(old, self.text)
            self.lost(self.text.replace(old, new, 1))

    def test_the_order_of_alike_names(self):
        lines = self.text.splitlines(keepends=True)
        self.lost("".join([lines[2], lines[1], lines[0], *lines[3:]]))

    def test_the_order_and_the_names_of_the_seal(self):
        self.lost(self.text.replace("subject,from;", "from,subject;"))
        self.lost(self.text.replace("subject,from;", "subject;"))
        self.lost(self.text.replace("subject,from;", ";"))
        self.kept(self.text.replace("subject,from;", "subject,none,from;"))

    def test_another_sum(self):
        told = sum_by(self.TEXT, ["Subject", "from"], 77)
        for other in [told - 1, told + 1, 0, GREATEST]:
            self.lost(self.text.replace(f";{told}", f";{other}"))

    def test_the_first_seal_alone(self):
        self.kept(done(self.text, (self.text.index("\n\n") + 1,) * 2 + ("Seal: x\n",)))
        self.refused(NoSeal, holds, "Seal: x\n" + self.text, 77)
        self.lost("Seal: ;1\n" + self.text)

    def test_a_seal_of_a_part_is_none_of_the_letter(self):
        self.refused(NoSeal, holds, "Kind: cover/x\n\n" + self.text, 77)
        self.kept(self.sealed("Kind: cover/x\n\nSeal: x\n" + self.TEXT, ["From"], 77))

    def test_another_body(self):
        self.lost(done(self.text, put_body(self.text, (), signs_of("A\n"))))


class NoSealTest(SealingCase):
    def test_no_such_head(self):
        for text in ["\n", LEAF, "Seals: ;11\n\n", "X-Seal: ;11\n\n", "A: b\n\nSeal: ;11\n"]:
            self.refused(NoSeal, holds, text, 0)

    def test_values(self):
        for value in [
            ";0", ";1", ";11", f";{GREATEST}", "a;5", "a,b;5", "a-1,b2,c;5", "a" * 30 + ";5", "kind,code;5", "sealed;5",
            ";2147483600", ";1234567890", "b,a;5",
        ]:
            self.assertIn(holds("Seal: " + value + "\n\n", 0), [True, False])
        self.assertIs(holds("seal: ;11\n\n", 0), True)

    def test_no_values(self):
        for value in [
            "", ";", "11", "a", "a;", ";a", ";-1", ";+1", ";01", ";00", ";011", ";1 ;", "; 11", ";11;", ";11,", ";1_1",
            ";1.0",
            f";{GREATEST + 1}", ";2147483650", ";9999999999", ";10000000000", ";" + "1" * 5000, ";0000000011",
            "A;5", "a,B;5", "a,a;5", "a,b,a;5", "seal;5", "a,seal;5", "Seal;5", ",;5", "a,;5", ",a;5", "a,,b;5",
            "a, b;5",
            "a ,b;5", "a ;5", "1;5", "-a;5", "a:b;5", "a" * 31 + ";5", "a;b;5", "a;5;", "a.b;5", "a b;5", "(x) ;5",
            '";5"',
        ]:
            for key in [0, 5]:
                with self.subTest(value=value):
                    self.refused(NoSeal, holds, "Seal: " + value + "\n\n", key)

    def test_no_key(self):
        for text in ["Seal: ;11\n\n", LEAF, "Seal: x\n\n"]:
            for value in NO_KEYS:
                with self.subTest(value=ascii(value)):
                    self.refused(NoSeal, holds, text, value)

    def test_no_letter_first(self):
        self.no_letter(holds, 0)
        self.no_letter(holds, None)

    def test_a_folded_value(self):
        self.assertIs(holds("Seal:\n ;11\n\n", 0), True)
        self.refused(NoSeal, holds, "Seal: ;1\n 1\n\n", 0)


if __name__ == "__main__":
    unittest.main()
