import inspect
import itertools
import unittest

from foldletter import heads
from foldletter.errors import LetterError, NoHead
from foldletter.heads import fold, read_heads

from tests.samples import FIGURES, LETTERS, NO_TEXTS, SIGNS


def lines_of(text):
    """The lines of a text that ends with a line feed."""
    assert text.endswith("\n"), text
    return text[:-1].split("\n")


def folded_by_the_words(name, value):
    """What point [4] says, word by word."""
    line = name + ":" + (" " + value if value else "")
    lines = []
    while True:
        blanks = [
            place
            for place in range(1, len(line))
            if line[place] == " " and line[place - 1] != " " and (lines or place != len(name) + 1)
        ]
        if len(line) <= 72 or not blanks:
            return "".join(told + "\n" for told in [*lines, line])
        near = [place for place in blanks if place <= 72]
        place = near[-1] if near else blanks[0]
        lines.append(line[:place])
        line = line[place:]


class HeadsCase(unittest.TestCase):
    def refused(self, line, call, *args, **more):
        with self.assertRaises(LetterError) as caught:
            call(*args, **more)
        self.assertIs(caught.exception.__class__, NoHead)
        self.assertEqual(caught.exception.line, line)


class InterfaceTest(HeadsCase):
    def test_the_parameters(self):
        self.assertEqual(list(inspect.signature(fold).parameters), ["name", "value"])
        self.assertEqual(list(inspect.signature(read_heads).parameters), ["lines"])

    def test_defined_in_heads(self):
        for function in [fold, read_heads]:
            self.assertTrue(inspect.isfunction(function))
            self.assertEqual(function.__module__, heads.__name__)

    def test_by_name(self):
        self.assertEqual(fold(name="To", value="me"), "To: me\n")
        self.assertEqual(fold(value="me", name="To"), "To: me\n")
        self.assertEqual(fold("To", value="me"), "To: me\n")
        self.assertEqual(read_heads(lines=["To: me"]), [("To", "me")])

    def test_refused_by_name(self):
        self.refused(0, fold, value="me", name="")
        self.refused(0, fold, name="To", value=" me")
        self.refused(0, read_heads, lines=None)


class NameTest(HeadsCase):
    def test_one_sign(self):
        for sign in LETTERS:
            self.assertEqual(fold(sign, "v"), sign + ": v\n")
            self.assertEqual(read_heads([sign + ":v"]), [(sign, "v")])

    def test_thirty_signs(self):
        for name in ["a" * 30, "A" + "-" * 29, "z" + "9" * 29, "Abc-0" * 6]:
            self.assertEqual(fold(name, "v"), name + ": v\n")
            self.assertEqual(read_heads([name + ": v"]), [(name, "v")])

    def test_all_sizes(self):
        for size in range(1, 31):
            self.assertEqual(fold("n" * size, "v"), "n" * size + ": v\n")

    def test_all_signs_behind_the_first(self):
        for sign in LETTERS + FIGURES + "-":
            for name in ["a" + sign, "a" + sign + "b"]:
                self.assertEqual(fold(name, ""), name + ":\n")

    def test_letters_stay_as_they_are(self):
        self.assertEqual(fold("sUbJeCt", "V"), "sUbJeCt: V\n")

    def test_no_signs(self):
        self.refused(0, fold, "", "v")

    def test_thirty_one_signs(self):
        self.refused(0, fold, "a" * 31, "v")
        self.refused(0, fold, "a" * 60000, "v")

    def test_first_sign_no_letter(self):
        for sign in SIGNS:
            if sign not in LETTERS:
                self.refused(0, fold, sign, "v")
                self.refused(0, fold, sign + "a", "v")

    def test_other_signs(self):
        for sign in SIGNS + "\n":
            if sign not in LETTERS + FIGURES + "-":
                for name in ["a" + sign, "a" + sign + "b"]:
                    self.refused(0, fold, name, "v")

    def test_signs_that_no_text_has(self):
        for name in ["a%", "a\t", "a\r", "a\u00e9", "\u00e9", "a\u0663", "\u0430", "a\x7f"]:
            self.refused(0, fold, name, "v")

    def test_no_text(self):
        for name in NO_TEXTS:
            self.refused(0, fold, name, "v")
            self.refused(0, fold, name, None)


class ValueTest(HeadsCase):
    def test_each_sign(self):
        for sign in SIGNS:
            self.assertEqual(fold("A", "x" + sign + "y"), "A: x" + sign + "y\n")
            if sign != " ":
                self.assertEqual(fold("A", sign), "A: " + sign + "\n")

    def test_blank_at_the_begin(self):
        for value in [" v", "  v", " v w"]:
            self.refused(0, fold, "A", value)

    def test_blank_at_the_end(self):
        for value in ["v ", "v  ", "v w "]:
            self.refused(0, fold, "A", value)

    def test_blanks_alone(self):
        for value in [" ", "  ", " " * 80]:
            self.refused(0, fold, "A", value)

    def test_line_feed(self):
        for value in ["\n", "v\n", "\nv", "v\nw", "v\n w", "v" * 80 + "\n" + "w"]:
            self.refused(0, fold, "A", value)

    def test_no_text(self):
        for value in NO_TEXTS:
            self.refused(0, fold, "A", value)


class FoldTest(HeadsCase):
    def test_ordinary(self):
        self.assertEqual(fold("Subject", "a day at the sea"), "Subject: a day at the sea\n")

    def test_empty_value(self):
        self.assertEqual(fold("A", ""), "A:\n")
        self.assertEqual(fold("n" * 30, ""), "n" * 30 + ":\n")

    def test_line_of_seventy_one_and_seventy_two_signs_stays(self):
        for size in [71, 72]:
            value = "b " + "c" * (size - 5)
            text = fold("A", value)
            self.assertEqual(text, "A: " + value + "\n")
            self.assertEqual(len(text), size + 1)

    def test_line_of_seventy_three_and_seventy_four_signs_is_folded(self):
        for size in [73, 74]:
            rest = "c" * (size - 5)
            self.assertEqual(fold("A", "b " + rest), "A: b\n " + rest + "\n")

    def test_blank_with_seventy_one_signs_ahead(self):
        ahead = "b" * 68
        self.assertEqual(fold("A", ahead + " c"), "A: " + ahead + "\n c\n")
        self.assertEqual(fold("A", ahead + " c d"), "A: " + ahead + "\n c d\n")

    def test_blank_with_seventy_two_signs_ahead(self):
        ahead = "b" * 69
        self.assertEqual(fold("A", ahead + " c"), "A: " + ahead + "\n c\n")
        self.assertEqual(fold("A", "b" * 30 + " " + "b" * 38 + " c"), "A: " + "b" * 30 + " " + "b" * 38 + "\n c\n")

    def test_blank_with_seventy_three_signs_ahead_is_too_far(self):
        value = "b" * 30 + " " + "d" * 39 + " c"
        self.assertEqual(fold("A", value), "A: " + "b" * 30 + "\n " + "d" * 39 + " c\n")

    def test_the_last_blank_is_taken(self):
        value = "one two " + "t" * 40 + " four " + "f" * 30
        self.assertEqual(fold("A", value), "A: one two " + "t" * 40 + " four\n " + "f" * 30 + "\n")

    def test_the_rest_is_folded_again(self):
        value = " ".join(["x" * 10] * 20)
        self.assertEqual(
            fold("A", value),
            "A: " + " ".join(["x" * 10] * 6) + "\n"
            + (" " + " ".join(["x" * 10] * 6) + "\n") * 2
            + " " + " ".join(["x" * 10] * 2) + "\n",
        )

    def test_the_blank_counts_in_the_rest(self):
        for size, more in [(72, ""), (73, "\n")]:
            first = "A: " + "b" * 69
            second = " " + "c" * (size - 3)
            self.assertEqual(len(second + " d"), size)
            self.assertEqual(fold("A", "b" * 69 + second + " d"), first + "\n" + second + more + " d\n")

    def test_a_rest_with_seventy_two_signs_ahead_of_its_blank(self):
        first = "A: " + "b" * 69
        self.assertEqual(
            fold("A", "b" * 69 + " c " + "c" * 69 + " d"),
            first + "\n c " + "c" * 69 + "\n d\n",
        )
        self.assertEqual(
            fold("A", "b" * 69 + " c " + "c" * 70 + " d"),
            first + "\n c\n " + "c" * 70 + "\n d\n",
        )

    def test_several_blanks_are_folded_at_the_first(self):
        for many in range(1, 6):
            value = "b" * 60 + " " * many + "c" * 20
            self.assertEqual(fold("A", value), "A: " + "b" * 60 + "\n" + " " * many + "c" * 20 + "\n")

    def test_several_blanks_about_the_width(self):
        for ahead in [66, 67, 68, 69]:
            value = "b" * ahead + " " * 6 + "c"
            self.assertEqual(fold("A", value), "A: " + "b" * ahead + "\n" + " " * 6 + "c\n")

    def test_several_blanks_whose_first_is_too_far(self):
        for gap, more in [("  ", ""), ("   ", "\n")]:
            value = "a " + "b" * 68 + gap + "c"
            self.assertEqual(fold("A", value), "A: a\n " + "b" * 68 + more + gap + "c\n")

    def test_several_blanks_across_the_width_of_a_rest(self):
        value = "b" * 69 + " c" + " " * 80 + "d e"
        self.assertEqual(fold("A", value), "A: " + "b" * 69 + "\n c\n" + " " * 80 + "d\n e\n")

    def test_a_rest_of_many_blanks_is_not_folded_in_them(self):
        value = "b" * 70 + " " * 100 + "c"
        self.assertEqual(fold("A", value), "A: " + "b" * 70 + "\n" + " " * 100 + "c\n")

    def test_long_word_at_the_begin(self):
        for size in [69, 70, 71, 72, 200]:
            word = "b" * size
            self.assertEqual(fold("A", word), "A: " + word + "\n")
            self.assertEqual(fold("A", word + " c d"), "A: " + word + "\n c d\n")

    def test_long_word_amid(self):
        word = "b" * 90
        self.assertEqual(fold("A", "a " + word + " c d"), "A: a\n " + word + "\n c d\n")
        self.assertEqual(fold("A", "a  " + word + "  c d"), "A: a\n  " + word + "\n  c d\n")

    def test_long_word_at_the_end(self):
        word = "b" * 90
        self.assertEqual(fold("A", "a c " + word), "A: a c\n " + word + "\n")

    def test_long_words_side_by_side(self):
        word = "b" * 75
        self.assertEqual(fold("A", " ".join([word] * 3)), "A: " + word + ("\n " + word) * 2 + "\n")

    def test_word_just_as_long_as_a_rest(self):
        for size in [71, 72, 73]:
            word = "c" * size
            self.assertEqual(fold("A", "b" * 69 + " " + word), "A: " + "b" * 69 + "\n " + word + "\n")

    def test_never_at_the_blank_behind_the_name(self):
        for name in ["A", "Abc", "n" * 30]:
            text = fold(name, "b" * 100)
            self.assertEqual(text, name + ": " + "b" * 100 + "\n")
            self.assertEqual(fold(name, "b" * 100 + " c"), name + ": " + "b" * 100 + "\n c\n")

    def test_a_colon_in_the_value_may_be_folded_behind(self):
        self.assertEqual(fold("A", "b: " + "c" * 80), "A: b:\n " + "c" * 80 + "\n")
        self.assertEqual(fold("A", ": " + "c" * 80), "A: :\n " + "c" * 80 + "\n")

    def test_the_name_counts(self):
        value = "b" * 35 + " " + "c" * 5
        self.assertEqual(fold("n" * 29, value), "n" * 29 + ": " + value + "\n")
        self.assertEqual(fold("n" * 30, value), "n" * 30 + ": " + "b" * 35 + "\n " + "c" * 5 + "\n")

    def test_as_the_words_say(self):
        sizes = [1, 2, 33, 34, 35, 36, 67, 68, 69, 70, 71, 72, 73, 140]
        for name in ["A", "n" * 30]:
            for triple in itertools.product(sizes, repeat=3):
                for gap in [1, 2, 3, 72]:
                    value = (" " * gap).join("w" * size for size in triple)
                    text = fold(name, value)
                    self.assertEqual(text, folded_by_the_words(name, value))
                    self.assertEqual(text.replace("\n", "") + "\n", name + ": " + value + "\n")

    def test_a_great_value(self):
        for value in ["ab " * 19999 + "c", "a" + " b" * 29999]:
            lines = lines_of(fold("Great", value))
            self.assertEqual({len(line) > 69 for line in lines[:-1]}, {True})
            self.assertEqual({len(line) <= 72 for line in lines}, {True})
            self.assertEqual(read_heads(lines), [("Great", value)])
        for value in ["b" * 60000, "c" + " " * 59000 + "d"]:
            text = fold("Great", value)
            self.assertEqual(text, folded_by_the_words("Great", value))
            self.assertEqual(read_heads(lines_of(text)), [("Great", value)])


class ReadTest(HeadsCase):
    def test_ordinary(self):
        self.assertEqual(
            read_heads(["From: a@b", "Subject: a day", " at the sea", "To: c@d"]),
            [("From", "a@b"), ("Subject", "a day at the sea"), ("To", "c@d")],
        )

    def test_no_lines(self):
        self.assertEqual(read_heads([]), [])

    def test_values_are_without_blanks_at_their_ends(self):
        for line in ["A:v", "A: v", "A:   v", "A:v ", "A:  v   "]:
            self.assertEqual(read_heads([line]), [("A", "v")])

    def test_blanks_within_stay(self):
        self.assertEqual(read_heads(["A:  v   w  "]), [("A", "v   w")])

    def test_empty_value(self):
        for line in ["A:", "A: ", "A:    "]:
            self.assertEqual(read_heads([line]), [("A", "")])

    def test_the_first_colon_parts(self):
        self.assertEqual(read_heads(["A: b: c"]), [("A", "b: c")])
        self.assertEqual(read_heads(["A::b"]), [("A", ":b")])
        self.assertEqual(read_heads(["A: b", " c: d"]), [("A", "b c: d")])

    def test_the_name_stays_as_it_is(self):
        self.assertEqual(read_heads(["sUbJeCt-0: V"]), [("sUbJeCt-0", "V")])

    def test_heads_alike_all_stand(self):
        self.assertEqual(read_heads(["A: 1", "a: 2", "A: 1"]), [("A", "1"), ("a", "2"), ("A", "1")])

    def test_lines_that_go_on_are_put_together_as_they_stand(self):
        self.assertEqual(read_heads(["A: b", " c"]), [("A", "b c")])
        self.assertEqual(read_heads(["A: b", "   c"]), [("A", "b   c")])
        self.assertEqual(read_heads(["A: b  ", " c"]), [("A", "b   c")])
        self.assertEqual(read_heads(["A: b", " c", "  d ", " e"]), [("A", "b c  d  e")])
        self.assertEqual(read_heads(["A:", " c", " d"]), [("A", "c d")])
        self.assertEqual(read_heads(["A:", " c "]), [("A", "c")])

    def test_lines_of_blanks_alone_go_on(self):
        self.assertEqual(read_heads(["A: b", " "]), [("A", "b")])
        self.assertEqual(read_heads(["A: b", "   ", " c"]), [("A", "b    c")])
        self.assertEqual(read_heads(["A:", " ", "  "]), [("A", "")])
        self.assertEqual(read_heads(["A: b", " ", "C: d"]), [("A", "b"), ("C", "d")])

    def test_a_line_that_goes_on_with_what_looks_like_a_head(self):
        self.assertEqual(read_heads(["A: b", " C: d", "E: f"]), [("A", "b C: d"), ("E", "f")])

    def test_first_line_that_goes_on(self):
        for line in [" ", "   ", " A: b", " b"]:
            self.refused(0, read_heads, [line])
            self.refused(0, read_heads, [line, "A: b"])

    def test_empty_line(self):
        self.refused(0, read_heads, [""])
        self.refused(0, read_heads, ["", "A: b"])
        self.refused(1, read_heads, ["A: b", ""])
        self.refused(1, read_heads, ["A: b", "", "C: d"])
        self.refused(2, read_heads, ["A: b", " c", ""])

    def test_no_colon(self):
        self.refused(0, read_heads, ["A"])
        self.refused(0, read_heads, ["A", " : b"])
        self.refused(0, read_heads, ["A", " B: c"])
        self.refused(2, read_heads, ["A: b", " c", "d", "E: f"])

    def test_no_name(self):
        self.refused(0, read_heads, [":"])
        self.refused(0, read_heads, [": b"])
        self.refused(0, read_heads, ["::"])
        self.refused(1, read_heads, ["A: b", ": c", " d"])

    def test_blank_ahead_of_the_colon(self):
        self.refused(0, read_heads, ["A : b"])
        self.refused(1, read_heads, ["A: b", "C : d"])
        self.refused(0, read_heads, ["A", " :b"])

    def test_name_that_is_none(self):
        for name in ["1", "-", "1a", "-a", "a_b", "a b", "a.b", "a\\b", "a" * 31, "a(b)"]:
            self.refused(0, read_heads, [name + ": c"])
            self.refused(1, read_heads, ["A: b", name + ": c"])
            self.refused(3, read_heads, ["A: b", " c", " d", name + ": c", " d"])

    def test_the_first_refused_head_is_told(self):
        self.refused(1, read_heads, ["A: b", "c", "d", ": e"])
        self.refused(2, read_heads, ["A: b", "C:", ": d", " e", "f"])
        self.refused(0, read_heads, [" ", "a"])

    def test_the_line_told_begins_the_head(self):
        self.refused(1, read_heads, ["A: b", "no colon", " it goes on", " and on", "C: d"])

    def test_no_list(self):
        for lines in [None, True, 0, 2.5, "A: b", "", (), ("A: b",), {}, {"A: b": 1}, {"A: b"}, b"A: b", object()]:
            self.refused(0, read_heads, lines)

    def test_no_text_in_the_list(self):
        for line in NO_TEXTS:
            self.refused(0, read_heads, [line])
            self.refused(0, read_heads, ["A: b", line])
            self.refused(0, read_heads, ["A: b", " c", line, "D: e"])

    def test_line_feed_in_a_line(self):
        for line in ["\n", "C: d\n", "\nC: d", "C: d\n e", " \n"]:
            self.refused(0, read_heads, [line])
            self.refused(0, read_heads, ["A: b", line])

    def test_what_is_no_list_of_texts_goes_ahead_of_what_is_no_head(self):
        self.refused(0, read_heads, ["A: b", "no colon", None])
        self.refused(0, read_heads, ["A: b", "no colon", "C: d\n"])

    def test_what_is_handed_in_stays(self):
        lines = ["A: b", "  c ", "D:"]
        read_heads(lines)
        self.assertEqual(lines, ["A: b", "  c ", "D:"])

    def test_what_is_refused_stays(self):
        lines = ["A: b", "c", " d"]
        self.refused(1, read_heads, lines)
        self.assertEqual(lines, ["A: b", "c", " d"])

    def test_what_is_told_is_new(self):
        lines = ["A: b", "C: d"]
        told = read_heads(lines)
        again = read_heads(lines)
        self.assertIsNot(told, again)
        told.clear()
        self.assertEqual(again, [("A", "b"), ("C", "d")])
        self.assertEqual(read_heads(lines), [("A", "b"), ("C", "d")])
        self.assertIsNot(read_heads([]), read_heads([]))

    def test_what_is_changed_behind_changes_nothing(self):
        lines = ["A: b", " c"]
        told = read_heads(lines)
        lines[0] = "X: y"
        lines.append("Z:")
        self.assertEqual(told, [("A", "b c")])

    def test_kinds_of_what_is_told(self):
        told = read_heads(["A: b", "C:"])
        self.assertIs(told.__class__, list)
        for head in told:
            self.assertIs(head.__class__, tuple)
            self.assertEqual([part.__class__ for part in head], [str, str])

    def test_many_lines(self):
        self.assertEqual(read_heads(["A:"] + [" b"] * 20000), [("A", " ".join(["b"] * 20000))])
        self.assertEqual(read_heads(["A: b"] * 20000), [("A", "b")] * 20000)


class WrittenAndReadTest(HeadsCase):
    def test_what_is_written_is_read(self):
        values = [
            "",
            "v",
            "a: b",
            "b" * 200,
            "b" * 68 + "    " + "c" * 80 + "  d",
            " ".join("word" for _ in range(100)),
            "  ".join("w" * size for size in range(1, 90)),
            SIGNS.strip(" "),
            (SIGNS * 5).strip(" "),
        ]
        for name in ["A", "Subject", "x-0", "n" * 30]:
            for value in values:
                self.assertEqual(read_heads(lines_of(fold(name, value))), [(name, value)])

    def test_several_written_are_read(self):
        told = [("A", "b " * 50 + "c"), ("B", ""), ("C", "d" * 100), ("A", "e")]
        text = "".join(fold(name, value) for name, value in told)
        self.assertEqual(read_heads(lines_of(text)), told)

    def test_what_is_read_is_written_and_read_the_same(self):
        told = read_heads(["A:   b  c ", "   ", " d " * 60, "E:"])
        text = "".join(fold(name, value) for name, value in told)
        self.assertEqual(read_heads(lines_of(text)), told)


if __name__ == "__main__":
    unittest.main()
