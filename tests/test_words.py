import inspect
import itertools
import unittest

from foldletter.errors import LetterError, NoWords
from foldletter import words as words_module
from foldletter.words import WordRow, quoted, words

from tests.samples import FIGURES, LETTERS, NO_TEXTS, SIGNS

ATOM_SIGNS = LETTERS + FIGURES + "!#$&'*+-./=?^_`{|}~"
MARKS = "<>@,;:[]"


def short_texts(signs, size):
    """All texts of at most so many signs."""
    for many in range(size + 1):
        for row in itertools.product(signs, repeat=many):
            yield "".join(row)


def unslashed(text):
    """What a quoted word's inner signs tell, or None where a quote or a slash in it stands alone."""
    told = ""
    while text:
        if text[0] == '"' or text == "\\":
            return None
        if text[0] == "\\":
            text = text[1:]
        told += text[0]
        text = text[1:]
    return told


def levels(text):
    """How many remarks are open behind each sign of a text that begins with one."""
    open_ones = 0
    told = []
    skipped = False
    for sign in text:
        if skipped:
            skipped = False
        elif sign == "\\":
            skipped = True
        else:
            open_ones += {"(": 1, ")": -1}.get(sign, 0)
        told.append(open_ones)
    return told


def cut_by_the_words(text):
    """What point [6] says, told by looking for each word's end: the words, or the place that is refused."""
    found = []
    begin = 0
    while begin < len(text):
        sign = text[begin]
        ends = range(begin + 1, len(text) + 1)
        if sign == " ":
            begin += 1
            continue
        if sign in ATOM_SIGNS:
            end = max(end for end in ends if all(one in ATOM_SIGNS for one in text[begin:end]))
            word = ("atom", text[begin:end], begin, end)
        elif sign in MARKS:
            word = ("mark", sign, begin, begin + 1)
        elif sign == '"':
            closing = [
                end for end in ends
                if end > begin + 1 and text[end - 1] == '"' and unslashed(text[begin + 1:end - 1]) is not None
            ]
            if not closing:
                return begin
            word = ("quoted", unslashed(text[begin + 1:closing[0] - 1]), begin, closing[0])
        elif sign == "(":
            behind = levels(text[begin:])
            if 0 not in behind:
                return begin
            end = begin + behind.index(0) + 1
            word = ("remark", text[begin + 1:end - 1], begin, end)
        else:
            return begin
        found.append(word)
        begin = word[3]
    return found


class WordsCase(unittest.TestCase):
    def refused(self, at, call, *args, **more):
        with self.assertRaises(LetterError) as caught:
            call(*args, **more)
        self.assertIs(caught.exception.__class__, NoWords)
        self.assertEqual(caught.exception.at, at)


class InterfaceTest(WordsCase):
    def test_the_parameters(self):
        for function in [words, quoted]:
            self.assertTrue(inspect.isfunction(function))
            self.assertEqual(list(inspect.signature(function).parameters), ["text"])
            self.assertEqual(function.__module__, words_module.__name__)

    def test_by_name(self):
        self.assertEqual(words(text="a"), [("atom", "a", 0, 1)])
        self.assertEqual(quoted(text="a b"), '"a b"')

    def test_refused_by_name(self):
        self.refused(1, words, text="a)")
        self.refused(0, words, text=None)
        self.refused(0, quoted, text=None)


class AtomTest(WordsCase):
    def test_each_sign(self):
        for sign in ATOM_SIGNS:
            self.assertEqual(words(sign), [("atom", sign, 0, 1)])

    def test_all_signs_in_one(self):
        self.assertEqual(words(ATOM_SIGNS), [("atom", ATOM_SIGNS, 0, len(ATOM_SIGNS))])

    def test_as_long_as_it_goes(self):
        self.assertEqual(words("ab.c-9=?s?x?="), [("atom", "ab.c-9=?s?x?=", 0, 13)])
        self.assertEqual(words("a" * 60000), [("atom", "a" * 60000, 0, 60000)])

    def test_blanks_part_atoms(self):
        self.assertEqual(words("ab c"), [("atom", "ab", 0, 2), ("atom", "c", 3, 4)])
        self.assertEqual(words("  ab   c "), [("atom", "ab", 2, 4), ("atom", "c", 7, 8)])

    def test_signs_that_are_in_no_atom(self):
        for sign in SIGNS:
            if sign not in ATOM_SIGNS and sign not in '"()\\':
                told = words("a" + sign + "b")
                self.assertEqual([told[0], told[-1]], [("atom", "a", 0, 1), ("atom", "b", 2, 3)])


class BlanksTest(WordsCase):
    def test_empty_text(self):
        self.assertEqual(words(""), [])

    def test_blanks_alone(self):
        self.assertEqual(words(" "), [])
        self.assertEqual(words("     "), [])

    def test_blanks_about_each_sort(self):
        for word in ["a", '"a b"', "(a b)", "@"]:
            bare = words(word)
            padded = words("  " + word + "   ")
            self.assertEqual(padded, [(sort, text, begin + 2, end + 2) for sort, text, begin, end in bare])


class QuotedWordTest(WordsCase):
    def test_ordinary(self):
        self.assertEqual(words('"ab"'), [("quoted", "ab", 0, 4)])
        self.assertEqual(words('"a  b "'), [("quoted", "a  b ", 0, 7)])

    def test_empty(self):
        self.assertEqual(words('""'), [("quoted", "", 0, 2)])
        self.assertEqual(words(' "" ""'), [("quoted", "", 1, 3), ("quoted", "", 4, 6)])

    def test_other_words_signs_in_it(self):
        self.assertEqual(words('"(a)<@>)("'), [("quoted", "(a)<@>)(", 0, 10)])

    def test_each_sign_in_it(self):
        for sign in SIGNS:
            if sign not in '"\\':
                self.assertEqual(words('"' + sign + '"'), [("quoted", sign, 0, 3)])

    def test_slash_goes_with_each_sign(self):
        for sign in SIGNS:
            self.assertEqual(words('"a\\' + sign + 'b"'), [("quoted", "a" + sign + "b", 0, 6)])

    def test_slash_ahead_of_a_quote(self):
        self.assertEqual(words('"a\\"b"'), [("quoted", 'a"b', 0, 6)])
        self.assertEqual(words('"\\""'), [("quoted", '"', 0, 4)])

    def test_slash_at_the_end(self):
        self.assertEqual(words('"a\\\\"'), [("quoted", "a\\", 0, 5)])
        self.assertEqual(words('"\\\\\\""'), [("quoted", '\\"', 0, 6)])
        self.assertEqual(words('"\\\\\\\\"'), [("quoted", "\\\\", 0, 6)])

    def test_slash_at_the_begin(self):
        self.assertEqual(words('"\\ab"'), [("quoted", "ab", 0, 5)])
        self.assertEqual(words('"\\\\ab"'), [("quoted", "\\ab", 0, 6)])

    def test_the_next_quote_closes_it(self):
        self.assertEqual(words('"a""b"'), [("quoted", "a", 0, 3), ("quoted", "b", 3, 6)])
        self.assertEqual(words('"a"b"c"'), [("quoted", "a", 0, 3), ("atom", "b", 3, 4), ("quoted", "c", 4, 7)])

    def test_not_closed(self):
        for text in ['"', '"a', '"a b', '"\\"', '"a\\"', '"a\\', '"\\', '"\\\\\\"', '"(a)', '"a\\" (b) c']:
            self.refused(0, words, text)
            self.refused(3, words, "ab " + text)
            self.refused(2, words, '""' + text)

    def test_great(self):
        self.assertEqual(words('"' + "\\\\" * 29999 + '"'), [("quoted", "\\" * 29999, 0, 60000)])
        self.refused(0, words, '"' + "\\\\" * 29999)


class RemarkTest(WordsCase):
    def test_ordinary(self):
        self.assertEqual(words("(ab)"), [("remark", "ab", 0, 4)])
        self.assertEqual(words("( a  b )"), [("remark", " a  b ", 0, 8)])

    def test_empty(self):
        self.assertEqual(words("()"), [("remark", "", 0, 2)])
        self.assertEqual(words("()()"), [("remark", "", 0, 2), ("remark", "", 2, 4)])

    def test_remarks_within(self):
        self.assertEqual(words("(a(b)c)"), [("remark", "a(b)c", 0, 7)])
        self.assertEqual(words("(()())x"), [("remark", "()()", 0, 6), ("atom", "x", 6, 7)])
        self.assertEqual(words("(((a)))"), [("remark", "((a))", 0, 7)])
        self.assertEqual(words("(a)(b)"), [("remark", "a", 0, 3), ("remark", "b", 3, 6)])

    def test_deep_within(self):
        deep = "(" * 29999 + ")" * 29999
        self.assertEqual(words(deep), [("remark", deep[1:-1], 0, len(deep))])
        self.refused(0, words, deep[:-1])
        self.refused(len(deep), words, deep + ")")

    def test_other_words_signs_in_it(self):
        self.assertEqual(words('(a"b)'), [("remark", 'a"b', 0, 5)])
        self.assertEqual(words('("a)'), [("remark", '"a', 0, 4)])
        self.assertEqual(words("(<@>,;:[])"), [("remark", "<@>,;:[]", 0, 10)])

    def test_each_sign_in_it(self):
        for sign in SIGNS:
            if sign not in "()\\":
                self.assertEqual(words("(" + sign + ")"), [("remark", sign, 0, 3)])

    def test_slash_goes_with_each_sign_and_stays(self):
        for sign in SIGNS:
            self.assertEqual(words("(a\\" + sign + "b)"), [("remark", "a\\" + sign + "b", 0, 6)])

    def test_slash_ahead_of_its_signs(self):
        self.assertEqual(words("(a\\)b)"), [("remark", "a\\)b", 0, 6)])
        self.assertEqual(words("(a\\(b)"), [("remark", "a\\(b", 0, 6)])
        self.assertEqual(words("(\\)\\))"), [("remark", "\\)\\)", 0, 6)])

    def test_slash_at_the_end(self):
        self.assertEqual(words("(a\\\\)"), [("remark", "a\\\\", 0, 5)])
        self.assertEqual(words("((\\\\))"), [("remark", "(\\\\)", 0, 6)])

    def test_slash_in_a_remark_within(self):
        self.assertEqual(words("((\\)))"), [("remark", "(\\))", 0, 6)])

    def test_not_closed(self):
        for text in ["(", "(a", "(a(b)", "((a)", "(\\)", "(a\\)", "(a\\", "(\\", "(\\\\\\)", '("', "((()"]:
            self.refused(0, words, text)
            self.refused(3, words, "ab " + text)
            self.refused(2, words, "()" + text)

    def test_a_quoted_word_does_not_hide_the_closing_sign(self):
        self.refused(4, words, '("a)"')

    def test_closing_sign_alone(self):
        self.refused(0, words, ")")
        self.refused(0, words, ")a(b)")
        self.refused(1, words, "a)")
        self.refused(3, words, "  a)")
        self.refused(3, words, "(a))")
        self.refused(5, words, "(a)  )")


class MarkTest(WordsCase):
    def test_each(self):
        for sign in MARKS:
            self.assertEqual(words(sign), [("mark", sign, 0, 1)])

    def test_side_by_side(self):
        self.assertEqual(words(MARKS), [("mark", sign, place, place + 1) for place, sign in enumerate(MARKS)])

    def test_twice(self):
        self.assertEqual(words("<<"), [("mark", "<", 0, 1), ("mark", "<", 1, 2)])


class SideBySideTest(WordsCase):
    def test_all_sorts_with_no_blank(self):
        self.assertEqual(
            words('ab"c d"(e)<f@g.h>,i;j:[k]'),
            [
                ("atom", "ab", 0, 2),
                ("quoted", "c d", 2, 7),
                ("remark", "e", 7, 10),
                ("mark", "<", 10, 11),
                ("atom", "f", 11, 12),
                ("mark", "@", 12, 13),
                ("atom", "g.h", 13, 16),
                ("mark", ">", 16, 17),
                ("mark", ",", 17, 18),
                ("atom", "i", 18, 19),
                ("mark", ";", 19, 20),
                ("atom", "j", 20, 21),
                ("mark", ":", 21, 22),
                ("mark", "[", 22, 23),
                ("atom", "k", 23, 24),
                ("mark", "]", 24, 25),
            ],
        )

    def test_each_pair_of_sorts(self):
        samples = {"atom": ("a!", "a!"), "quoted": ('"b"', "b"), "remark": ("(c)", "c"), "mark": (";", ";")}
        for one, two in itertools.product(samples, repeat=2):
            if (one, two) != ("atom", "atom"):
                first, second = samples[one], samples[two]
                middle = len(first[0])
                self.assertEqual(
                    words(first[0] + second[0]),
                    [(one, first[1], 0, middle), (two, second[1], middle, middle + len(second[0]))],
                )

    def test_a_spec_with_a_phrase(self):
        self.assertEqual(
            words('Ann "B. C" <ann@home> (at home)'),
            [
                ("atom", "Ann", 0, 3),
                ("quoted", "B. C", 4, 10),
                ("mark", "<", 11, 12),
                ("atom", "ann", 12, 15),
                ("mark", "@", 15, 16),
                ("atom", "home", 16, 20),
                ("mark", ">", 20, 21),
                ("remark", "at home", 22, 31),
            ],
        )


class RefusedTest(WordsCase):
    def test_slash_alone(self):
        self.refused(0, words, "\\")
        self.refused(0, words, "\\a")
        self.refused(0, words, '\\"a"')
        self.refused(1, words, "a\\")
        self.refused(1, words, "a\\b")
        self.refused(3, words, "a  \\ b")
        self.refused(2, words, '""\\')
        self.refused(3, words, "(a)\\")

    def test_the_first_is_told(self):
        self.refused(1, words, 'a)"')
        self.refused(1, words, 'a")\\')
        self.refused(1, words, 'a\\)"')
        self.refused(2, words, "a (b\\)")

    def test_line_feed(self):
        for text in ["\n", "a\n", "\na", "a b\nc", '"a\n"', "(a\n)", "ab \n"]:
            self.refused(0, words, text)

    def test_line_feed_goes_ahead_of_what_cannot_be_cut(self):
        self.refused(0, words, "ab )\n")

    def test_no_text(self):
        for text in NO_TEXTS:
            self.refused(0, words, text)

    def test_signs_that_no_text_has(self):
        for text in ["a\t", "ab \u00e9", '"a\r"']:
            self.refused(0, words, text)


class ToldTest(WordsCase):
    def test_what_is_told_is_new(self):
        told = words("a b")
        again = words("a b")
        self.assertIsNot(told, again)
        told.clear()
        self.assertEqual(again, [("atom", "a", 0, 1), ("atom", "b", 2, 3)])
        self.assertEqual(words("a b"), again)
        self.assertIsNot(words(""), words(""))

    def test_kinds_of_what_is_told(self):
        told = words('a "b" (c) ;')
        self.assertIs(told.__class__, list)
        for word in told:
            self.assertIs(word.__class__, tuple)
            self.assertEqual([part.__class__ for part in word], [str, str, int, int])

    def test_as_the_words_say(self):
        for text in short_texts('a "\\()', 6):
            wanted = cut_by_the_words(text)
            if isinstance(wanted, int):
                self.refused(wanted, words, text)
            else:
                self.assertEqual(words(text), wanted)


class QuotedTest(WordsCase):
    def test_one_atom_stands_as_it_is(self):
        for text in ["a", "ab.c", "0", "-", "=?s?x?=", ATOM_SIGNS, *ATOM_SIGNS]:
            self.assertEqual(quoted(text), text)

    def test_empty(self):
        self.assertEqual(quoted(""), '""')

    def test_blanks(self):
        self.assertEqual(quoted(" "), '" "')
        self.assertEqual(quoted("   "), '"   "')
        self.assertEqual(quoted("a b"), '"a b"')
        self.assertEqual(quoted(" a"), '" a"')
        self.assertEqual(quoted("a "), '"a "')

    def test_quotes_and_slashes(self):
        self.assertEqual(quoted('"'), '"\\""')
        self.assertEqual(quoted("\\"), '"\\\\"')
        self.assertEqual(quoted('a"b'), '"a\\"b"')
        self.assertEqual(quoted("a\\b"), '"a\\\\b"')
        self.assertEqual(quoted('\\"'), '"\\\\\\""')
        self.assertEqual(quoted('"\\'), '"\\"\\\\"')
        self.assertEqual(quoted('""'), '"\\"\\""')
        self.assertEqual(quoted('"a b"'), '"\\"a b\\""')

    def test_signs_that_are_in_no_atom(self):
        for sign in SIGNS:
            if sign not in ATOM_SIGNS and sign not in '"\\':
                for text in [sign, "a" + sign, sign + "a", "a" + sign + "a"]:
                    self.assertEqual(quoted(text), '"' + text + '"')

    def test_several_words(self):
        self.assertEqual(quoted("(a)"), '"(a)"')
        self.assertEqual(quoted("a@b"), '"a@b"')
        self.assertEqual(quoted("a,b;c"), '"a,b;c"')

    def test_line_feed(self):
        for text in ["\n", "a\n", "\na", "a\nb", '"\n"']:
            self.refused(0, quoted, text)

    def test_no_text(self):
        for text in NO_TEXTS:
            self.refused(0, quoted, text)

    def test_cut_to_one_word_with_this_text(self):
        samples = [*short_texts('a "\\();', 5), SIGNS, SIGNS * 3, '"\\' * 20000, "a" * 60000]
        for text in samples:
            told = quoted(text)
            sort = "atom" if text and all(sign in ATOM_SIGNS for sign in text) else "quoted"
            self.assertEqual(words(told), [(sort, text, 0, len(told))])

    def test_quoted_twice(self):
        for text in short_texts('a "\\', 4):
            told = quoted(quoted(text))
            (word,) = words(told)
            self.assertEqual(words(word[1])[0][1], text)


class WordRowTest(WordsCase):
    def test_words_are_taken_in_their_order(self):
        value = '(x) a "b c"(y)<  (z)'
        row = WordRow(value)
        for word in [word for word in words(value) if word[0] != "remark"]:
            self.assertFalse(row.is_over())
            self.assertEqual(row.place(), word[2])
            self.assertEqual(row.take(), word)
        self.assertTrue(row.is_over())
        self.assertEqual(row.place(), len(value))

    def test_what_it_sees(self):
        row = WordRow('a "<" <')
        self.assertEqual([row.sees("atom"), row.sees("quoted"), row.sees("quoted", "atom")], [True, False, True])
        self.assertEqual([row.sees("mark"), row.sees_mark("<"), row.sees_mark("a")], [False, False, False])
        row.take()
        self.assertEqual([row.sees("atom"), row.sees("quoted"), row.sees_mark("<")], [False, True, False])
        row.take()
        self.assertEqual([row.sees("mark"), row.sees_mark("<"), row.sees_mark(">")], [True, True, False])
        row.take()
        self.assertEqual([row.sees("atom", "quoted", "mark"), row.sees_mark("<")], [False, False])

    def test_no_words(self):
        for value in ["", "  ", " (a) "]:
            row = WordRow(value)
            self.assertTrue(row.is_over())
            self.assertEqual(row.place(), len(value))

    def test_refused(self):
        self.refused(0, WordRow, None)
        self.refused(0, WordRow, "a\n")
        self.refused(2, WordRow, "a (b")


if __name__ == "__main__":
    unittest.main()
