import inspect
import random
import unittest

from foldletter import letters
from foldletter.codes import best
from foldletter.errors import LetterError, NoLetter
from foldletter.letters import is_sound, read_letter
from foldletter.mending import steps
from foldletter.parts import Cover, Leaf, Many

from tests import oracle
from tests.makers import some_damage, some_part, some_torn
from tests.samples import NO_TEXTS, TORN_TEXTS, signs_of

LEAF = "Kind: text/plain\n\nA\n"
MANY = "Kind: many/mixed; border=b0\n\n--b0\n" + LEAF + "--b0--\n"
COVER = "Kind: cover/whole\n\n" + LEAF

# What point [24] asks, each thing of it missing alone, and the place of the first step then.
UNSOUND = [
    # No line feed at the end.
    ("\nA", 2), ("A: b\n\nc", 7), (LEAF[:-1], 19), (MANY[:-1], 60), (COVER[:-1], 38), ("\n\n ", 3),
    # No empty line.
    ("", 0), ("A: b\n", 5), ("A: b\n c\n", 8), ("Kind: text/plain\n", 17), ("Kind: cover/whole\n", 18),
    # A line that is no head.
    ("x\n", 0), ("x\n\n", 0), (" \n\n", 0), (" A: b\n\n", 0), ("A: b\nx\n\n", 5), ("A: b\n c\n1: d\n\n", 8),
    (": a\n\n", 0),
    ("a b: c\n\n", 0), ("a: b\na\n b: c\n\n", 5), ("a" * 31 + ": b\n\n", 0), ("A: b\n--b0\n\n", 5), ("a_b: c\n\n", 0),
    # Two Kinds.
    ("Kind: a/b\nKind: a/b\n\n", 10), ("Kind: a/b\nA: b\nKIND: a/b\n\n", 15),
    ("kind: a/b\nkind: cover/whole\n\n\n", 10),
    # Two Codes.
    ("Code: plain\nCode: plain\n\n", 12), ("Code: sixes\nA: b\nCODE: sixes\n\nQQ==\n", 17),
    # A Kind that can't be read.
    ("Kind:\n\n", 0), ("Kind: a\n\n", 0), ("Kind: a/b;\n\n", 0), ("A: b\nKind: a/b; n=1; n=2\n\n", 5),
    ("Kind: a/b; n*1=c\n\n", 0),
    ("Kind: a/b)\n\n", 0), ("Kind: many\n\n--b0\n\n--b0--\n", 0),
    # A many without a border.
    ("Kind: many/mixed\n\n--b0\n\n--b0--\n", 0), ('Kind: many/x; border=""\n\n--\n\n----\n', 0),
    ("Kind: many/x; border=b-0\n\n--b-0\n\n--b-0--\n", 0), ("Kind: many/x; borders=b0\n\n--b0\n\n--b0--\n", 0),
    ("Kind: many/x; border=" + "b" * 41 + "\n\n--" + "b" * 41 + "\n\n--" + "b" * 41 + "--\n", 0),
    ('Kind: many/x; border="b 0"\n\n--b 0\n\n--b 0--\n', 0), ("Kind: many/x; border=b_\n\n--b_\n\n--b_--\n", 0),
    # Without a border line.
    ("Kind: many/mixed; border=b0\n\n", 0), ("Kind: many/mixed; border=b0\n\n--b0--\n", 0),
    ("Kind: many/mixed; border=b0\n\n--b1\n\n--b0--\n", 0), ("Kind: many/mixed; border=b0\n\n--B0\n\n--b0--\n", 0),
    ("Kind: many/mixed; border=b0\n\n--b0 \n\n--b0--\n", 0), ("Kind: many/mixed; border=b0\n\n --b0\n\n--b0--\n", 0),
    # Without an ending one.
    ("Kind: many/mixed; border=b0\n\n--b0\n\n", 35), ("Kind: many/mixed; border=b0\n\n--b0\n\nA\n--b0-\n", 43),
    ("Kind: many/mixed; border=b0\n\n--b0\n\n--b0-- \n", 43),
    # With the ending one ahead of the first border line.
    ("Kind: many/mixed; border=b0\n\n--b0--\n--b0\n\n", 42),
    # A code other than plain with a many or a cover.
    ("Code: sixes\n" + MANY, 0), ("Kind: many/mixed; border=b0\nCode: marks\n\n--b0\n\n--b0--\n", 28),
    ("Code: marks\n" + COVER, 0), ("Kind: cover/whole\nCode: sixes\n\n\n", 18), ("Code: MARKS\n" + COVER, 0),
    # A code that is none.
    ("Code:\n\n", 0), ("Code: six\n\n", 0), ("A: b\nCode: plain (x)\n\n", 5), ('Code: "plain"\n\n', 0),
    ("Code: x\n" + MANY, 0),
    ("Code: x\n" + COVER, 0),
    # A body that can't be read by the code.
    ("Code: sixes\n\nA\n", 0), ("Code: sixes\n\nQQ=\n", 0), ("A: b\nCode: marks\n\n=\n=4\n", 5),
    ("Code: marks\n\n=G0\n", 0),
    # Ones that are sound but for what is within them.
    ("Kind: cover/whole\n\n", 19), ("Kind: many/mixed; border=b0\n\n--b0\n--b0--\n", 34),
    ("Kind: many/mixed; border=b0\n\n--b0\n\n--b0\n--b0--\n", 40),
]


class LettersCase(unittest.TestCase):
    def refused(self, at, value):
        with self.assertRaises(LetterError) as caught:
            read_letter(value)
        self.assertIs(caught.exception.__class__, NoLetter)
        self.assertEqual(caught.exception.at, at)
        self.assertIs(is_sound(value), False)

    def reads(self, text, part):
        self.assertEqual(read_letter(text), part)
        self.assertIs(is_sound(text), True)
        self.assertEqual(read_letter(part.text()), part)

    def within_manys(self, text):
        """The text as a part of a many, with how many signs stand ahead of it."""
        ahead = "Kind: many/mixed; border=M\n\n--M\n\nx\n--M\n"
        return ahead + text + "--M\n\n--M--\n", len(ahead)

    def within_covers(self, text):
        ahead = "A: b\nKind: cover/whole\n\nKind: cover/whole\n\n"
        return ahead + text, len(ahead)


class InterfaceTest(LettersCase):
    def test_the_parameters(self):
        for function in [read_letter, is_sound]:
            self.assertTrue(inspect.isfunction(function))
            self.assertEqual(list(inspect.signature(function).parameters), ["text"])
            self.assertEqual(function.__module__, letters.__name__)

    def test_by_name(self):
        self.assertEqual(read_letter(text="\n"), Leaf([]))
        self.assertIs(is_sound(text="\n"), True)
        self.assertIs(is_sound(text=None), False)
        with self.assertRaises(NoLetter):
            read_letter(text=None)


class LeavesTest(LettersCase):
    def test_no_heads(self):
        self.reads("\n", Leaf([]))
        self.reads("\nA\n", Leaf([65, 10]))
        self.reads("\n\n", Leaf([10]))
        self.reads("\n\n\n A\n\n", Leaf(signs_of("\n\n A\n\n")))

    def test_heads(self):
        self.reads("A: b\n\nc\n", Leaf([99, 10], heads=[("A", "b")]))
        self.reads("A:\nB:c\nA:  d  \n\n", Leaf([], heads=[("A", ""), ("B", "c"), ("A", "d")]))
        self.reads("Subject: a\n  b\n   \n c:d\nX: e\n\n", Leaf([], heads=[("Subject", "a  b    c:d"), ("X", "e")]))
        self.reads("A:b:c\n \n\n", Leaf([], heads=[("A", "b:c")]))

    def test_a_kind(self):
        self.reads("Kind: a/b; n=c\n\n", Leaf([], kind=("a", "b", [("n", "c")])))
        self.reads("KIND:\n A/B ;\n N=C\n\n", Leaf([], kind=("a", "b", [("n", "C")])))
        self.reads("kind: text/plain\n\n", Leaf([]))
        self.reads("Kind: manys/b; border=b0\n\n--b0\n",
                   Leaf(signs_of("--b0\n"), kind=("manys", "b", [("border", "b0")])))
        self.reads("Kind: text/cover\n\n", Leaf([], kind=("text", "cover", [])))

    def test_kind_and_code_at_other_places(self):
        for heads in ["A: b\nKind: x/y\nCode: sixes\nC: d\n", "Code: sixes\nA: b\nC: d\nKind: x/y\n",
                      "Kind: x/y\nA: b\nC: d\nCode: sixes\n", "A: b\nC: d\nCODE:sixes\nkind:x/y\n"]:
            self.reads(heads + "\nQQ==\n",
                       Leaf([65], kind=("x", "y", []), code="sixes", heads=[("A", "b"), ("C", "d")]))

    def test_codes(self):
        self.reads("Code: plain\n\nA=\n", Leaf([65, 61, 10]))
        self.reads("Code: sixes\n\nQQ\n = =\n", Leaf([65], code="sixes"))
        self.reads("Code: marks\n\nA=3d=\n\n", Leaf([65, 61, 10], code="marks"))
        self.reads("Code: marks\n\n", Leaf([], code="marks"))
        self.reads("Code: sixes\n\n\n \n", Leaf([], code="sixes"))

    def test_codes_in_other_letters(self):
        self.reads("Code: PLAIN\n\nA\n", Leaf([65, 10]))
        self.reads("code:  SixeS \n\nQQ==\n", Leaf([65], code="sixes"))
        self.reads("CODE: Marks\n\nA=\n", Leaf([65], code="marks"))

    def test_a_code_by_which_the_octets_can_not_be_written(self):
        for line in ["a" * 73, "a" * 200, " " * 73, "=" * 73]:
            octets = signs_of(line + "\n")
            for heads in ["", "Code: plain\n", "Code: Plain\n"]:
                self.reads(heads + "\n" + line + "\n", Leaf(octets))
                self.assertEqual(read_letter(heads + "\n" + line + "\n").code(), best(octets))
                self.assertNotEqual(best(octets), "plain")
        self.assertEqual({best(signs_of(sign * 73 + "\n")) for sign in "a="}, {"marks", "sixes"})

    def test_octets_that_plain_could_write_keep_their_code(self):
        self.assertEqual(read_letter("Code: sixes\n\nQQo=\n").code(), "sixes")
        self.assertEqual(read_letter("Code: marks\n\nA\n").code(), "marks")

    def test_a_line_of_72_signs_is_plain(self):
        self.assertEqual(read_letter("\n" + "a" * 72 + "\n").code(), "plain")

    def test_lines_like_borders(self):
        self.reads("\n--b0\n--b0--\n", Leaf(signs_of("--b0\n--b0--\n")))
        self.reads("Border: b0\n\n--b0\n", Leaf(signs_of("--b0\n"), heads=[("Border", "b0")]))


class ManysTest(LettersCase):
    def test_one_and_several_parts(self):
        self.reads(MANY, Many([Leaf([65, 10])]))
        self.reads("Kind: many/x; border=b0\n\n--b0\n\n--b0\nA: b\n\nc\n--b0\n" + COVER + "--b0--\n",
                   Many([Leaf([]), Leaf([99, 10], heads=[("A", "b")]), Cover(Leaf([65, 10]))], sub="x"))

    def test_heads(self):
        self.reads("A: b\nKIND: many/x; border=b0\nC: d\n\n--b0\n\n--b0--\n",
                   Many([Leaf([])], sub="x", heads=[("A", "b"), ("C", "d")]))
        for code in ["plain", "PLAIN", "Plain"]:
            self.reads("Code: " + code + "\n" + MANY, Many([Leaf([65, 10])]))

    def test_lines_ahead_and_behind(self):
        self.reads("Kind: many/x; border=b0\n\na\n\n--b0--\n --b0\n--b0\n\n--b0--\nb\n--b0\n--b0--\n\n",
                   Many([Leaf([])], sub="x", ahead="a\n\n--b0--\n --b0\n", behind="b\n--b0\n--b0--\n\n"))
        self.reads("Kind: many/x; border=b0\n\n\n--b0\n\n--b0--\n\n",
                   Many([Leaf([])], sub="x", ahead="\n", behind="\n"))

    def test_kinds_with_other_pairs(self):
        for kind in ["MANY/X; n=1; BORDER=b0; m=2", "many/x; border*1=0; border*0=b", 'many/x; border="b0"',
                     "(w) many/x (y); border=b0 (z)", "many/x; border*0=b0"]:
            self.reads("Kind: " + kind + "\n\n--b0\n\nA\n--b0--\n", Many([Leaf([65, 10])], sub="x"))

    def test_other_borders(self):
        for border in ["b", "B0", "0", "x" * 40, "Ab12", "b00"]:
            self.reads(f"Kind: many/mixed; border={border}\n\n--{border}\n\n--b0\n--{border}--\n",
                       Many([Leaf(signs_of("--b0\n"))]))
        self.reads("Kind: many/mixed; border=b0\n\n--B0\n--b0\n\n--B0--\n--b0--\n",
                   Many([Leaf(signs_of("--B0--\n"))], ahead="--B0\n"))

    def test_border_lines_behind_the_ending_one(self):
        text = "Kind: many/x; border=b0\n\n--b0\n\n--b0--\n--b0\nx\n--b0--\n"
        self.reads(text, Many([Leaf([])], sub="x", behind="--b0\nx\n--b0--\n"))

    def test_an_ending_line_ahead_of_the_first_border_line(self):
        text = "Kind: many/x; border=b0\n\n--b0--\n--b0\n\n--b0--\n"
        self.reads(text, Many([Leaf([])], sub="x", ahead="--b0--\n"))

    def test_manys_within_manys(self):
        inner = "Kind: many/x; border=i\n\n--i\n\nA\n--i--\n"
        self.reads("Kind: many/y; border=o\n\n--o\n" + inner + "--o\n" + inner + "--i\n--o--\n",
                   Many([Many([Leaf([65, 10])], sub="x"), Many([Leaf([65, 10])], sub="x", behind="--i\n")], sub="y"))

    def test_the_same_border_within(self):
        outer = "Kind: many/y; border=o\n\n--o\nKind: many/x; border=o\n\n--o\n\n--o--\n--o--\n"
        self.refused(28, outer)


class CoversTest(LettersCase):
    def test_each_sort_within(self):
        self.reads(COVER, Cover(Leaf([65, 10])))
        self.reads("Kind: cover/whole\n\n\n", Cover(Leaf([])))
        self.reads("Kind: cover/whole\n\n" + MANY, Cover(Many([Leaf([65, 10])])))
        self.reads("A: b\nKind: cover/whole\n\n" + COVER, Cover(Cover(Leaf([65, 10])), heads=[("A", "b")]))

    def test_other_kinds_of_covers(self):
        for kind in ["cover/x", "COVER/Whole; n=1", "cover/whole; border=b0"]:
            self.reads("Kind: " + kind + "\nCode: Plain\n\n\nA\n", Cover(Leaf([65, 10])))


class UnsoundTest(LettersCase):
    def test_each_thing_missing_alone(self):
        for text, at in UNSOUND:
            with self.subTest(text=text):
                self.refused(at, text)
                self.assertFalse(oracle.is_sound(text))
                self.assertEqual(at, steps(text)[0][1])

    def test_each_thing_missing_in_a_part_within(self):
        for text, at in UNSOUND:
            wholes = [self.within_covers(text)]
            # The whole text alone can want a line feed.
            if text == "" or text.endswith("\n"):
                wholes.append(self.within_manys(text))
            for whole, size in wholes:
                with self.subTest(text=whole):
                    self.refused(size + at, whole)
                    self.assertFalse(oracle.is_sound(whole))
        for within in [self.within_manys, self.within_covers]:
            for text in [LEAF, MANY, COVER, "\n"]:
                self.assertTrue(is_sound(within(text)[0]))

    def test_no_text(self):
        for value in [*NO_TEXTS, *TORN_TEXTS, "\n\t\n", LEAF + "\u00e4\n", [LEAF], (LEAF,), b"\n", Leaf([])]:
            with self.subTest(value=ascii(value)):
                self.refused(0, value)


class ThereAndBackTest(LettersCase):
    def test_what_is_written_is_read_to_the_same_part(self):
        chance = random.Random(25)
        for _ in range(300):
            part = some_part(chance, chance.randint(1, 4))
            self.assertEqual(read_letter(part.text()), part)
            self.assertTrue(oracle.is_sound(part.text()))

    def test_what_is_read_written_and_read_again_is_the_same(self):
        chance = random.Random(26)
        known = 0
        for number in range(1500):
            text = some_torn(chance) if number % 2 else some_damage(chance, some_part(chance, 2).text())
            sound = oracle.is_sound(text)
            self.assertIs(is_sound(text), sound)
            if sound:
                known += 1
                part = read_letter(text)
                self.assertEqual(read_letter(part.text()), part)
            else:
                self.refused(steps(text)[0][1], text)
        self.assertGreater(known, 100)


if __name__ == "__main__":
    unittest.main()
