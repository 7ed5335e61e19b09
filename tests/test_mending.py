import inspect
import random
import unittest

from foldletter import mending
from foldletter.errors import LetterError, NoText
from foldletter.letters import is_sound
from foldletter.mending import mended, steps

from tests import oracle
from tests.makers import some_damage, some_part, some_torn
from tests.samples import NO_TEXTS, TORN_TEXTS

MANY = "Kind: many/mixed; border=b0\n"


class MendingCase(unittest.TestCase):
    def refused(self, call, *args, **more):
        with self.assertRaises(LetterError) as caught:
            call(*args, **more)
        self.assertIs(caught.exception.__class__, NoText)

    def mends(self, text, wanted, *told):
        """That a text is mended to another one by steps, and not mended again."""
        self.assertEqual(steps(text), list(told))
        self.assertEqual(mended(text), wanted)
        self.assertTrue(is_sound(wanted))
        self.assertTrue(oracle.is_sound(wanted))
        self.assertEqual(steps(wanted), [])
        self.assertEqual(mended(wanted), wanted)
        self.assertIs(is_sound(text), told == ())

    def within(self, text, wanted, *told):
        """That a text that needs no feed is mended so, and as a part of each sort, too."""
        self.mends(text, wanted, *told)
        for ahead, behind in [
            ("Kind: cover/whole\n\n", ""), ("Kind: many/x; border=M\n\n--M\n", "--M--\n"),
            ("Kind: many/x; border=M\n\na\n--M\n\n--M\n", "--M\n\nb\n--M--\nc\n"),
            ("A: b\nKind: many/x; border=M\n\n--M\nKind: cover/x\n\nKind: many/y; border=N\n\n--N\n",
             "--N--\n\n--M--\n"),
        ]:
            moved = [(word, at + len(ahead)) for word, at in told]
            self.mends(ahead + text + behind, ahead + wanted + behind, *moved)


class InterfaceTest(MendingCase):
    def test_the_parameters(self):
        for function in [steps, mended]:
            self.assertTrue(inspect.isfunction(function))
            self.assertEqual(list(inspect.signature(function).parameters), ["text"])
            self.assertEqual(function.__module__, mending.__name__)

    def test_by_name(self):
        self.assertEqual(steps(text=""), [("gap", 0)])
        self.assertEqual(mended(text=""), "\n")
        self.refused(steps, text=None)
        self.refused(mended, text=None)

    def test_kinds_of_what_is_told(self):
        told = steps("Kind:\nx")
        self.assertEqual(told, [("drop", 0), ("gap", 6), ("feed", 7)])
        self.assertIs(told.__class__, list)
        for step in told:
            self.assertIs(step.__class__, tuple)
            self.assertEqual([thing.__class__ for thing in step], [str, int])
        self.assertIs(mended("x").__class__, str)

    def test_what_is_told_is_new(self):
        told = steps("x")
        told.clear()
        self.assertEqual(steps("x"), [("gap", 0), ("feed", 1)])
        self.assertIsNot(steps("\n"), steps("\n"))

    def test_no_text(self):
        for value in [*NO_TEXTS, *TORN_TEXTS, ["\n"], b"\n"]:
            with self.subTest(value=ascii(value)):
                self.refused(steps, value)
                self.refused(mended, value)


class SoundTest(MendingCase):
    def test_sound_texts(self):
        chance = random.Random(27)
        for text in ["\n", "\n\n\n", "\nA\n", "A: b\n\n", *[some_part(chance).text() for _ in range(100)]]:
            self.mends(text, text)

    def test_line_feeds_alone(self):
        for many in range(1, 60):
            self.mends("\n" * many, "\n" * many)


class FeedTest(MendingCase):
    def test_a_leaf(self):
        self.mends("\nA", "\nA\n", ("feed", 2))
        self.mends("A: b\n\nc\n d", "A: b\n\nc\n d\n", ("feed", 10))
        self.mends("\n ", "\n \n", ("feed", 2))

    def test_it_stands_ahead_of_a_gap(self):
        self.mends("A: b", "A: b\n\n", ("feed", 4), ("gap", 4))
        self.mends("A: b\n c", "A: b\n c\n\n", ("feed", 7), ("gap", 7))

    def test_it_goes_with_a_head_that_is_dropped(self):
        self.mends("Kind: x", "\n", ("drop", 0), ("feed", 7), ("gap", 7))
        self.mends("A: b\nCode:", "A: b\n\n", ("drop", 5), ("feed", 10), ("gap", 10))

    def test_it_ends_a_border_line(self):
        self.mends(MANY + "\n--b0", MANY + "\n--b0\n\n--b0--\n", ("feed", 33), ("gap", 33), ("close", 33))
        self.mends(MANY + "\n--b0\n\n--b0--", MANY + "\n--b0\n\n--b0--\n", ("feed", 41))

    def test_it_ends_a_body_that_is_read_by_a_code(self):
        self.mends("Code: sixes\n\nQQ==", "Code: sixes\n\nQQ==\n", ("feed", 17))
        self.mends("Code: marks\n\n=", "Code: marks\n\n=\n", ("feed", 14))
        self.mends("Code: marks\n\n=4", "\n=4\n", ("drop", 0), ("feed", 15))

    def test_in_a_part_within(self):
        self.mends("Kind: cover/whole\n\n\nA", "Kind: cover/whole\n\n\nA\n", ("feed", 21))
        self.mends("Kind: cover/whole", "Kind: cover/whole\n\n\n", ("feed", 17), ("gap", 17), ("gap", 17))


class GapTest(MendingCase):
    def test_the_empty_text(self):
        self.within("", "\n", ("gap", 0))

    def test_ahead_of_the_first_line_that_is_of_no_head(self):
        self.within("x\n", "\nx\n", ("gap", 0))
        self.within("A: b\nx\n", "A: b\n\nx\n", ("gap", 5))
        self.within("A: b\n c\n: d\nE: f\n\n", "A: b\n c\n\n: d\nE: f\n\n", ("gap", 8))
        self.within("A: b\nx\n\ny\n", "A: b\n\nx\n\ny\n", ("gap", 5))
        self.within("x\n\n", "\nx\n\n", ("gap", 0))
        self.within("--b0\n", "\n--b0\n", ("gap", 0))
        self.within("1: a\n", "\n1: a\n", ("gap", 0))
        self.within("A : b\n", "\nA : b\n", ("gap", 0))
        self.within("a" * 31 + ": b\n", "\n" + "a" * 31 + ": b\n", ("gap", 0))
        self.within("a" * 30 + ": b\n", "a" * 30 + ": b\n\n", ("gap", 34))

    def test_a_line_that_goes_on_with_no_head(self):
        self.within(" A: b\n", "\n A: b\n", ("gap", 0))
        self.within(" \n", "\n \n", ("gap", 0))
        self.within(" a\n\n", "\n a\n\n", ("gap", 0))
        self.within("x\n a\n", "\nx\n a\n", ("gap", 0))

    def test_a_line_of_blanks_goes_on_with_a_head(self):
        self.within("A: b\n  \n", "A: b\n  \n\n", ("gap", 8))
        self.within("A: b\n \nx\n", "A: b\n \n\nx\n", ("gap", 7))

    def test_at_the_end(self):
        self.within("A: b\n", "A: b\n\n", ("gap", 5))
        self.within("A:\n", "A:\n\n", ("gap", 3))

    def test_an_empty_line_ahead(self):
        self.within("\nx\n", "\nx\n")
        self.within("A: b\n\n c\n", "A: b\n\n c\n")

    def test_ahead_of_a_body_that_is_looked_at(self):
        self.within("Kind: cover/whole\nx\n", "Kind: cover/whole\n\n\nx\n", ("gap", 18), ("gap", 18))
        self.within("Kind: cover/whole\n", "Kind: cover/whole\n\n\n", ("gap", 18), ("gap", 18))
        self.within("Kind: cover/whole\nKind: cover/x\n", "Kind: cover/whole\n\n\n", ("drop", 18), ("gap", 32),
                    ("gap", 32))
        self.within(MANY + "--b0\n\n--b0--\n", MANY + "\n--b0\n\n--b0--\n", ("gap", 28))
        self.within("Code: sixes\n=\n", "\n=\n", ("drop", 0), ("gap", 12))
        self.within("Code: marks\n=\n", "Code: marks\n\n=\n", ("gap", 12))


class DropTest(MendingCase):
    def test_all_kinds_but_the_first(self):
        self.within("Kind: a/b\nKind: c/d\n\n", "Kind: a/b\n\n", ("drop", 10))
        self.within("Kind: a/b\nA: b\nKIND: c/d\n e\nkind:\n\n", "Kind: a/b\nA: b\n\n", ("drop", 15), ("drop", 28))
        self.within("Kind: cover/x\nKind: a/b\n\n\n", "Kind: cover/x\n\n\n", ("drop", 14))

    def test_a_kind_that_can_not_be_read(self):
        for value in ["", "a", "a/b;", "a/b; n=", "a/b (", "a/b; n=1; n=2", "a/b; n*1=x", "1/b", "many/x; border"]:
            size = len("Kind: " + value + "\n")
            self.within("Kind: " + value + "\n\nA\n", "\nA\n", ("drop", 0))
            self.within("A: b\nKind: " + value + "\nC: d\n\n", "A: b\nC: d\n\n", ("drop", 5))
            self.within("Kind: " + value + "\nKind: a/b\n\n", "\n", ("drop", 0), ("drop", size))

    def test_a_head_of_several_lines(self):
        self.within("A: b\nKind:\n a\n b\nC: d\n\n", "A: b\nC: d\n\n", ("drop", 5))
        self.within("Kind:\n a/b;\n n=c\n\n", "Kind:\n a/b;\n n=c\n\n")

    def test_a_many_without_a_border(self):
        for pairs in ["", "; n=b0", '; border=""', "; border=b-0", "; border=" + "b" * 41, "; borders=b0"]:
            self.within("Kind: many/x" + pairs + "\n\n--b0\n\n--b0--\n", "\n--b0\n\n--b0--\n", ("drop", 0))

    def test_a_many_without_a_border_line(self):
        for body in ["", "x\n", "--b0--\n", "--b0 \n", " --b0\n", "--B0\n", "--b\n", "--b00\n", "A: b\n\n--b0-\n"]:
            self.within(MANY + "\n" + body, "\n" + body, ("drop", 0))
            self.within("A: b\n" + MANY + MANY + "\n" + body, "A: b\n\n" + body, ("drop", 5), ("drop", 33))

    def test_a_border_line_among_the_heads_is_none(self):
        self.within(MANY + "A: b\n\n", "A: b\n\n", ("drop", 0))
        self.within(MANY + "--b0\n", MANY + "\n--b0\n\n--b0--\n", ("gap", 28), ("gap", 33), ("close", 33))

    def test_all_codes_but_the_first(self):
        self.within("Code: sixes\nCode: plain\n\nQQ==\n", "Code: sixes\n\nQQ==\n", ("drop", 12))
        self.within("Code: plain\nA: b\nCODE: x\ncode:\n y\n\n", "Code: plain\nA: b\n\n", ("drop", 17), ("drop", 25))

    def test_a_code_that_is_none(self):
        for value in ["", "six", "plain x", '"plain"', "plain;", "(x) plain", "marks.", "sixesmarks", "s"]:
            size = len("Code: " + value + "\n")
            self.within("Code: " + value + "\n\nA\n", "\nA\n", ("drop", 0))
            self.within("Code: " + value + "\nA: b\nCode: plain\n\n", "A: b\n\n", ("drop", 0), ("drop", size + 5))
            self.within("Kind: cover/x\nCode: " + value + "\n\n\n", "Kind: cover/x\n\n\n", ("drop", 14))

    def test_codes_in_other_letters(self):
        for value in ["PLAIN", "Plain", "SIXES", "Marks", " plain "]:
            self.within("CODE:" + value + "\n\n\n", "CODE:" + value + "\n\n\n")

    def test_a_code_other_than_plain_with_a_many_or_a_cover(self):
        for code in ["sixes", "Marks"]:
            self.within(MANY + f"Code: {code}\n\n--b0\n\n--b0--\n", MANY + "\n--b0\n\n--b0--\n", ("drop", 28))
            self.within(f"Code: {code}\nKind: cover/x\n\n\n", "Kind: cover/x\n\n\n", ("drop", 0))
        self.within(MANY + "Code: PLAIN\n\n--b0\n\n--b0--\n", MANY + "Code: PLAIN\n\n--b0\n\n--b0--\n")
        self.within("Code: plain\nKind: cover/x\n\n\n", "Code: plain\nKind: cover/x\n\n\n")

    def test_a_body_that_can_not_be_read(self):
        for code, body in [("sixes", "A\n"), ("sixes", "QQ==x\n"), ("sixes", "QR==\n"), ("marks", "=G0\n"),
                           ("marks", "=4\n")]:
            self.within(f"Code: {code}\n\n" + body, "\n" + body, ("drop", 0))
            self.within(f"Kind: a/b\nCode: {code}\nCode: plain\n\n" + body, "Kind: a/b\n\n" + body, ("drop", 10),
                        ("drop", 22))

    def test_the_code_goes_by_the_kind_that_is_left(self):
        self.within("Kind: many/x\nCode: sixes\n\nQQ==\n", "Code: sixes\n\nQQ==\n", ("drop", 0))
        self.within("Kind: many/x\nCode: sixes\n\nA\n", "\nA\n", ("drop", 0), ("drop", 13))
        self.within("Kind: many/x; border=b\nCode: marks\n\nx\n", "Code: marks\n\nx\n", ("drop", 0))
        self.within("Kind: cover/x\nKind: a/b\nCode: sixes\n\n\n", "Kind: cover/x\n\n\n", ("drop", 14), ("drop", 24))
        self.within("Kind: a/b\nKind: cover/x\nCode: sixes\n\n\n", "Kind: a/b\nCode: sixes\n\n\n", ("drop", 10))
        self.within("Kind: x\nKind: cover/x\nCode: sixes\n\n\n", "Code: sixes\n\n\n", ("drop", 0), ("drop", 8))

    def test_kinds_and_codes_amid(self):
        self.within("Code: x\nKind: a/b\nCode: plain\nKind: c/d\nA: b\n\n", "Kind: a/b\nA: b\n\n",
                    ("drop", 0), ("drop", 18), ("drop", 30))


class CloseTest(MendingCase):
    def test_no_ending_line(self):
        self.within(MANY + "\n--b0\n\n", MANY + "\n--b0\n\n--b0--\n", ("close", 35))
        self.within(MANY + "\nx\n--b0\n\nA\n--b0\n\nB\n", MANY + "\nx\n--b0\n\nA\n--b0\n\nB\n--b0--\n", ("close", 47))

    def test_an_ending_line_ahead_of_the_first_border_line(self):
        self.within(MANY + "\n--b0--\n--b0\n\n", MANY + "\n--b0--\n--b0\n\n--b0--\n", ("close", 42))

    def test_lines_that_are_no_ending_ones(self):
        for line in ["--b0-- ", " --b0--", "--b0-", "--B0--", "--b0---", "--b1--"]:
            text = MANY + "\n--b0\n\n" + line + "\n"
            self.within(text, text + "--b0--\n", ("close", len(text)))

    def test_closes_at_one_place(self):
        outer = "Kind: many/x; border=o\n\n--o\n"
        inner = "Kind: many/y; border=i\n\n--i\n"
        text = outer + inner + "\nA\n"
        self.within(text, text + "--i--\n--o--\n", ("close", len(text)), ("close", len(text)))
        text = outer + "Kind: cover/x\n\n" + inner + MANY + "\n--b0\n\n"
        self.within(text, text + "--b0--\n--i--\n--o--\n", *[("close", len(text))] * 3)
        text = outer + inner + "\n--o\n" + inner + "\n"
        self.within(text, outer + inner + "\n--i--\n--o\n" + inner + "\n--i--\n--o--\n",
                    ("close", len(outer + inner) + 1), ("close", len(text)), ("close", len(text)))

    def test_gaps_go_ahead_of_closes(self):
        text = MANY + "\n--b0\n"
        self.within(text, text + "\n--b0--\n", ("gap", 34), ("close", 34))
        outer = "Kind: many/x; border=o\n\n--o\n" + text
        self.within(outer, outer + "\n--b0--\n--o--\n", ("gap", len(outer)), ("close", len(outer)),
                    ("close", len(outer)))
        outer = "Kind: many/x; border=o\n\n--o\nKind: cover/x\n"
        self.within(outer, outer + "\n\n--o--\n", ("gap", len(outer)), ("gap", len(outer)), ("close", len(outer)))

    def test_all_at_one_place(self):
        text = "Kind: many/x; border=o\n\n--o\n" + MANY + "\n--b0\nKind: cover/x"
        at = len(text)
        self.mends(text, text + "\n\n\n--b0--\n--o--\n", ("feed", at), ("gap", at), ("gap", at), ("close", at),
                   ("close", at))


class WithinTest(MendingCase):
    def test_each_part_of_a_many(self):
        self.within(MANY + "\n--b0\n--b0\nx\n--b0\nKind:\n\n--b0--\n", MANY + "\n--b0\n\n--b0\n\nx\n--b0\n\n--b0--\n",
                    ("gap", 34), ("gap", 39), ("drop", 46))

    def test_lines_ahead_and_behind_are_let_be(self):
        text = MANY + "\nx\nKind:\nKind:\n--b0--\n--b0\n\n--b0--\nCode: x\n--b0\n"
        self.within(text, text)

    def test_a_part_that_is_an_unclosed_many_ends_at_the_border_line_around(self):
        inner = "Kind: many/x; border=i\n\n--i\n\n"
        text = MANY + "\n--b0\n" + inner + "--b0\n\n--b0--\n--i--\n"
        self.within(text, MANY + "\n--b0\n" + inner + "--i--\n--b0\n\n--b0--\n--i--\n", ("close", 34 + len(inner)))

    def test_a_part_with_the_border_of_the_many_around(self):
        self.within(MANY + "\n--b0\n" + MANY + "\n--b0\n\n--b0--\n--b0--\n",
                    MANY + "\n--b0\n\n--b0\n\n--b0--\n--b0--\n", ("drop", 34))

    def test_all_sorts_of_steps(self):
        text = "A: b\nKind: many/x; border=b0\nCode: x\n--b0\nKind: a\n--b0\n\n--b0\nKind: cover/x\nCode: Sixes\n\n"
        text += "Code: sixes\n A"
        self.mends(text, "A: b\nKind: many/x; border=b0\n\n--b0\n\n--b0\n\n--b0\nKind: cover/x\n\n\n--b0--\n",
                   ("drop", 29), ("gap", 37), ("drop", 42), ("gap", 50), ("drop", 75), ("drop", 88), ("feed", 102),
                   ("gap", 102), ("close", 102))


class AsTheWordsSayTest(MendingCase):
    def test_by_chance(self):
        chance = random.Random(28)
        words = set()
        for number in range(2500):
            text = some_torn(chance) if number % 2 else some_damage(chance, some_part(chance, 3).text())
            told, wanted = oracle.steps_and_mended(text)
            self.mends(text, wanted, *told)
            words |= {word for word, _ in told}
        self.assertEqual(words, set(oracle.ORDER))

    def test_each_short_text_of_few_lines(self):
        chance = random.Random(29)
        lines = ["Kind: many/x; border=b\n", "Kind: cover/x\n", "Kind:\n", "Code: sixes\n", "--b\n", "--b--\n", "\n",
                 "QQ==\n", " x\n"]
        rows = [[]]
        for _ in range(4):
            rows = [[*row, line] for row in rows for line in lines]
        for row in chance.sample(rows, 1500):
            text = "".join(row)[:-1 if chance.random() < 0.2 else None]
            told, wanted = oracle.steps_and_mended(text)
            self.mends(text, wanted, *told)


if __name__ == "__main__":
    unittest.main()
