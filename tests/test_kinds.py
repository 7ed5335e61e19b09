import copy
import inspect
import itertools
import random
import re
import unittest

from foldletter import kinds
from foldletter.errors import LetterError, NoKind
from foldletter.kinds import plain_kind, read_kind, show_kind
from foldletter.words import words

from tests.samples import FIGURES, LETTERS, NO_LISTS, NO_TEXTS, SIGNS, TORN_TEXTS

SMALL = "abcdefghijklmnopqrstuvwxyz"

NO_SORTS = [
    *NO_TEXTS, *TORN_TEXTS, "", "a" * 21, "a" * 200, "A", "aB", "Text", "1", "1a", "-", "-a", "+", "+a", "a b", " a",
    "a ", "a\n", "\n", "a/b", "a_b", "a.b", "a*b", "a=b", "a;b", "\u00e4",
]
NO_NAMES = [*NO_SORTS, "a+", "a+b", "n*0", "n*"]
NO_VALUES = [*NO_TEXTS, *TORN_TEXTS, "\n", "a\n", "a\nb", "\n" * 50]
NO_PAIRS = [
    *NO_TEXTS, *NO_LISTS, "ab", (), ("n",), ("n", "v", "w"), ["n", "v"], {"n": "v"}, (("n", "v"),), ("n", ["v"]),
    (["n"], "v"), *[(value, "v") for value in NO_NAMES], *[("n", value) for value in NO_VALUES],
]
PAIRS_AMID = [("n", "v"), ("m", "w")]
NO_KINDS = [
    *NO_TEXTS, *NO_LISTS, "text/plain", ("text", "plain"), ("text",), ("text", "plain", [], []), ["text", "plain", []],
    ("text", ["plain"], []), ("text/plain", []), ("text", "plain", {}), ("text", "plain", {"n": "v"}),
    ("text", "plain", (("n", "v"),)), ("text", "plain", [["n", "v"]]), ("text", "plain", ["nv"]),
    ("text", "plain", [("n", "v"), ("n", "w")]), ("text", "plain", [("n", "v"), ("n", "v")]),
    ("text", "plain", [("n", "v"), ("m", "v"), ("n", "w")]), ([], "text", "plain"), ("text", [], "plain"),
    *[(value, "plain", []) for value in NO_SORTS], *[("text", value, []) for value in NO_SORTS],
    *[("text", "plain", value) for value in NO_LISTS], *[("text", "plain", [value]) for value in NO_PAIRS],
    *[("text", "plain", [PAIRS_AMID[0], value, PAIRS_AMID[1]]) for value in NO_PAIRS],
]


class KindsCase(unittest.TestCase):
    def refused(self, at, call, *args, **more):
        with self.assertRaises(LetterError) as caught:
            call(*args, **more)
        self.assertIs(caught.exception.__class__, NoKind)
        self.assertEqual(caught.exception.at, at)

    def reads(self, value, main, sub, *pairs):
        self.assertEqual(read_kind(value), (main, sub, list(pairs)))

    def there_and_back(self, kind, value):
        self.assertEqual(show_kind(kind), value)
        self.assertEqual(read_kind(value), kind)


class InterfaceTest(KindsCase):
    def test_the_parameters(self):
        for function, name in [(show_kind, "kind"), (read_kind, "value")]:
            self.assertTrue(inspect.isfunction(function))
            self.assertEqual(list(inspect.signature(function).parameters), [name])
            self.assertEqual(function.__module__, kinds.__name__)

    def test_by_name(self):
        self.assertEqual(show_kind(kind=("a", "b", [])), "a/b")
        self.assertEqual(read_kind(value="a/b"), ("a", "b", []))

    def test_refused_by_name(self):
        self.refused(0, show_kind, kind=None)
        self.refused(0, read_kind, value=None)
        self.refused(3, read_kind, value="a/b,")

    def test_kinds_of_what_is_told(self):
        self.assertIs(show_kind(("a", "b", [])).__class__, str)
        told = read_kind("a/b; n=v; m*0=w")
        self.assertEqual([thing.__class__ for thing in told], [str, str, list])
        for pair in told[2]:
            self.assertIs(pair.__class__, tuple)
            self.assertEqual([thing.__class__ for thing in pair], [str, str])

    def test_what_is_told_is_new(self):
        told = read_kind("a/b; n=v")
        told[2].append(("m", "w"))
        self.reads("a/b; n=v", "a", "b", ("n", "v"))
        self.assertIsNot(read_kind("a/b")[2], read_kind("a/b")[2])
        plain_kind()[2].append(("n", "v"))
        self.assertEqual(plain_kind(), ("text", "plain", []))

    def test_nothing_handed_in_is_changed(self):
        for kind in [("a", "b", [("n", "v" * 100), ("m", "")]), ("a", "b", [("n", "v"), ("n", "w")])]:
            kept = copy.deepcopy(kind)
            try:
                show_kind(kind)
            except NoKind:
                pass
            self.assertEqual(kind, kept)


class ShowTest(KindsCase):
    def test_no_pairs(self):
        self.there_and_back(("text", "plain", []), "text/plain")
        self.there_and_back(("a", "b", []), "a/b")
        self.there_and_back(("a" * 20, "b" * 20, []), "a" * 20 + "/" + "b" * 20)
        self.there_and_back(("a-1+", "x+y-2", []), "a-1+/x+y-2")

    def test_each_sign_of_main_and_sub(self):
        for sign in SIGNS:
            for kind in [("a" + sign, "b", []), ("a", "b" + sign, [])]:
                if sign in SMALL + FIGURES + "-+":
                    self.there_and_back(kind, kind[0] + "/" + kind[1])
                else:
                    self.refused(0, show_kind, kind)
            for kind in [(sign, "b", []), ("a", sign, [])]:
                if sign in SMALL:
                    self.there_and_back(kind, kind[0] + "/" + kind[1])
                else:
                    self.refused(0, show_kind, kind)

    def test_one_pair(self):
        self.there_and_back(("a", "b", [("n", "v")]), "a/b; n=v")
        self.there_and_back(("a", "b", [("a" * 20, "v")]), "a/b; " + "a" * 20 + "=v")
        self.there_and_back(("a", "b", [("n-1", "v")]), "a/b; n-1=v")

    def test_each_sign_of_a_name(self):
        for sign in SIGNS:
            kind = ("a", "b", [("n" + sign, "v")])
            if sign in SMALL + FIGURES + "-":
                self.there_and_back(kind, "a/b; n" + sign + "=v")
            else:
                self.refused(0, show_kind, kind)
            if sign not in SMALL:
                self.refused(0, show_kind, ("a", "b", [(sign, "v")]))

    def test_several_pairs_in_their_order(self):
        self.there_and_back(("a", "b", [("z", "1"), ("y", "2"), ("x", "")]), 'a/b; z=1; y=2; x=""')
        many = [(f"n{number}", str(number)) for number in range(30)]
        self.there_and_back(("a", "b", many), "a/b; " + "; ".join(name + "=" + value for name, value in many))

    def test_values_that_are_one_atom(self):
        for value in ["v", "V", "0", "a.b-c", "=", "a=b", "*0", "!#$&'*+-./=?^_`{|}~", "=?m?A?=", "a" * 40]:
            self.there_and_back(("a", "b", [("n", value)]), "a/b; n=" + value)

    def test_values_that_are_no_atom(self):
        for value, shown in [
            ("", '""'), (" ", '" "'), ("a b", '"a b"'), (" a ", '" a "'), ('"', '"\\""'), ("\\", '"\\\\"'),
            ('a"b\\c', '"a\\"b\\\\c"'), ("a;b", '"a;b"'), ("(a)", '"(a)"'), (",", '","'),
            (" " * 40, '"' + " " * 40 + '"'),
            ('"' * 40, '"' + '\\"' * 40 + '"'), ("\\" * 40, '"' + "\\\\" * 40 + '"'),
        ]:
            self.there_and_back(("a", "b", [("n", value)]), "a/b; n=" + shown)

    def test_each_sign_of_a_value(self):
        for sign in SIGNS:
            for value in [sign, "v" + sign, sign + "v", sign * 40, sign * 41, "v" * 40 + sign]:
                kind = ("a", "b", [("n", value), ("m", value)])
                self.assertEqual(read_kind(show_kind(kind)), kind)

    def test_values_cut_to_pieces(self):
        for size, sizes in [(39, [39]), (40, [40]), (41, [40, 1]), (79, [40, 39]), (80, [40, 40]), (81, [40, 40, 1]),
                            (120, [40, 40, 40]), (121, [40, 40, 40, 1])]:
            value = "".join(SMALL[place // 10] for place in range(size))
            rest = value
            shown = []
            for number, one in enumerate(sizes):
                shown.append((f"n*{number}=" if len(sizes) > 1 else "n=") + rest[:one])
                rest = rest[one:]
            self.there_and_back(("a", "b", [("n", value)]), "a/b; " + "; ".join(shown))

    def test_pieces_quoted_one_by_one(self):
        self.there_and_back(("a", "b", [("n", "v" * 40 + " w")]), "a/b; n*0=" + "v" * 40 + '; n*1=" w"')
        self.there_and_back(("a", "b", [("n", "v " * 20 + "w" * 40)]),
                            'a/b; n*0="' + "v " * 20 + '"; n*1=' + "w" * 40)
        self.there_and_back(("a", "b", [("n", '"' * 41)]), 'a/b; n*0="' + '\\"' * 40 + '"; n*1="\\""')
        self.there_and_back(("a", "b", [("n", "a" * 39 + "\\" * 2)]), 'a/b; n*0="' + "a" * 39 + '\\\\"; n*1="\\\\"')

    def test_more_than_ten_pieces(self):
        value = "".join(SMALL[number] * 40 for number in range(13))
        shown = "; ".join(f"n*{number}=" + SMALL[number] * 40 for number in range(13))
        self.there_and_back(("a", "b", [("n", value)]), "a/b; " + shown)

    def test_pieces_amid_other_pairs(self):
        self.there_and_back(("a", "b", [("l", "1"), ("n", "v" * 50), ("z", "2")]),
                            "a/b; l=1; n*0=" + "v" * 40 + "; n*1=" + "v" * 10 + "; z=2")

    def test_no_kind(self):
        for value in NO_KINDS:
            with self.subTest(value=ascii(value)):
                self.refused(0, show_kind, value)


class ReadTest(KindsCase):
    def test_main_and_sub(self):
        self.reads("a/b", "a", "b")
        self.reads("  a/b  ", "a", "b")
        self.reads("(x) a/b(y)", "a", "b")
        self.reads("TEXT/Plain", "text", "plain")
        self.reads("a+1/b-+", "a+1", "b-+")

    def test_pairs(self):
        self.reads("a/b;n=v", "a", "b", ("n", "v"))
        self.reads("a/b ; n=v ;m=w", "a", "b", ("n", "v"), ("m", "w"))
        self.reads("a/b (x); (y) n=v (z)", "a", "b", ("n", "v"))

    def test_names_in_great_letters(self):
        self.reads("a/b; N=V; MixEd-1=W", "a", "b", ("n", "V"), ("mixed-1", "W"))

    def test_values_as_one_atom(self):
        self.reads("a/b; n==", "a", "b", ("n", "="))
        self.reads("a/b; n=a=b=", "a", "b", ("n", "a=b="))
        self.reads("a/b; n=*", "a", "b", ("n", "*"))
        self.reads("a/b; n=x/y", "a", "b", ("n", "x/y"))
        self.reads("a/b; n=" + "v" * 500, "a", "b", ("n", "v" * 500))

    def test_values_as_quoted_words(self):
        self.reads('a/b; n=""', "a", "b", ("n", ""))
        self.reads('a/b; n="v"', "a", "b", ("n", "v"))
        self.reads('a/b; n="v;m=w"', "a", "b", ("n", "v;m=w"))
        self.reads('a/b; n=" \\v\\"\\\\ "; m="w"(x);l=""', "a", "b", ("n", ' v"\\ '), ("m", "w"), ("l", ""))
        self.reads('a/b; n="' + "v " * 500 + '"', "a", "b", ("n", "v " * 500))

    def test_pieces_in_order(self):
        self.reads("a/b; n*0=v", "a", "b", ("n", "v"))
        self.reads("a/b; n*0=v; n*1=w", "a", "b", ("n", "vw"))
        self.reads('a/b; n*0="v "; n*1=w; n*2=""', "a", "b", ("n", "v w"))
        self.reads('a/b; n*0=""', "a", "b", ("n", ""))

    def test_pieces_in_another_order(self):
        self.reads("a/b; n*1=w; n*0=v", "a", "b", ("n", "vw"))
        self.reads("a/b; n*2=x; N*0=v; n*1=w", "a", "b", ("n", "vwx"))
        row = [f"n*{number}={SMALL[number]}" for number in range(12)]
        self.reads("a/b; " + "; ".join(row[::-1]), "a", "b", ("n", SMALL[:12]))

    def test_pieces_amid_other_pairs(self):
        self.reads("a/b; l=1; n*1=w; m=2; n*0=v; o=3", "a", "b", ("l", "1"), ("n", "vw"), ("m", "2"), ("o", "3"))
        self.reads("a/b; n*1=w; m*0=x; n*0=v; m*1=y", "a", "b", ("n", "vw"), ("m", "xy"))

    def test_sizes_of_names(self):
        self.reads("a/b; " + "n" * 20 + "=v", "a", "b", ("n" * 20, "v"))
        self.reads("a/b; " + "n" * 20 + "*0=v", "a", "b", ("n" * 20, "v"))
        self.refused(5, read_kind, "a/b; " + "n" * 21 + "=v")
        self.refused(5, read_kind, "a/b; " + "n" * 21 + "*0=v")


class ReadRefusedTest(KindsCase):
    def test_no_text_without_line_feeds(self):
        for value in [*NO_TEXTS, *TORN_TEXTS, "\n", "a/b\n", "\na/b", "a/b;\n n=v", "a)\n"]:
            with self.subTest(value=ascii(value)):
                self.refused(0, read_kind, value)

    def test_what_can_not_be_cut_to_words(self):
        for value, at in [(")", 0), ("a/b )", 4), ("a/b; n=(", 7), ('a/b; n="v', 7), ("a/b\\", 3), ("a/b; (x) \\", 9)]:
            self.refused(at, read_kind, value)

    def test_what_can_not_be_cut_goes_first(self):
        for value, at in [(",)", 1), ("a (", 2), ('a/b; n=1; n=2 "', 14), ("x/y/z; (", 7)]:
            self.refused(at, read_kind, value)

    def test_no_main_and_sub(self):
        for word in [
            "a", "/", "a/", "/b", "a/b/c", "a//b", "a" * 21 + "/b", "a/" + "b" * 21, "1/b", "a/1", "-a/b", "a/+b",
            "a_/b", "a.b/c", "a/b=c", "n=v", '"a/b"', '""', ";", ",", "<", "a@b", "=",
        ]:
            self.refused(0, read_kind, word)
            self.refused(2, read_kind, "  " + word + "; n=v")
            self.refused(3, read_kind, "(x)" + word)

    def test_behind_main_and_sub(self):
        for word in ["x", '"x"', ",", "<", ">", "@", ":", "[", "]", "/", "n=v"]:
            self.refused(4, read_kind, "a/b " + word)
            self.refused(7, read_kind, "a/b (x)" + word)

    def test_no_pair(self):
        for word in [
            ";", ",", '"x"', "x", "=", "=v", "1=v", "-n=v", "n+=v", "n.=v", "n*=v", "n*", "n*a=v", "n*-1=v", "n*+1=v",
            "n*0*1=v", "n**0=v", "*0=v", "n*00=v", "n*01=v", "n*010=v", "n*0", "n_=v", "n/b=v", "<", "@",
        ]:
            self.refused(5, read_kind, "a/b; " + word)
            self.refused(5, read_kind, "a/b; " + word + "; m=w")
            self.refused(10, read_kind, "a/b; m=w; " + word)

    def test_a_value_that_is_no_quoted_word(self):
        for word in [" x", " ;", " ,", "<", ";", " m=w", "(x);"]:
            value = "a/b; n=" + word
            self.refused(words(value)[-1][2], read_kind, value)

    def test_a_quoted_word_that_begins_behind(self):
        self.refused(8, read_kind, 'a/b; n= "v"')
        self.refused(10, read_kind, 'a/b; n=(x)"v"')
        self.refused(8, read_kind, 'a/b; n=v"w"')
        self.refused(5, read_kind, 'a/b; n"v"')

    def test_behind_a_value(self):
        for word in ["x", '"x"', ",", "<", "@", "m=w"]:
            self.refused(9, read_kind, "a/b; n=v " + word)
            self.refused(10, read_kind, 'a/b; n="v"' + word)

    def test_a_name_twice(self):
        self.refused(10, read_kind, "a/b; n=v; n=w")
        self.refused(10, read_kind, "a/b; n=v; N=v")
        self.refused(10, read_kind, 'a/b; n=v; n="w"')
        self.refused(10, read_kind, "a/b; n=v; n=")
        self.refused(15, read_kind, "a/b; n=v; m=w; n=x")

    def test_a_name_whole_and_in_pieces(self):
        self.refused(10, read_kind, "a/b; n=v; n*0=w")
        self.refused(10, read_kind, "a/b; n=v; n*1=w")
        self.refused(12, read_kind, "a/b; n*0=v; n=w")
        self.refused(12, read_kind, "a/b; n*1=v; N=w; n*0=x")

    def test_a_piece_twice(self):
        self.refused(12, read_kind, "a/b; n*0=v; n*0=w")
        self.refused(12, read_kind, "a/b; n*1=v; N*1=v; n*0=v")
        self.refused(19, read_kind, "a/b; n*0=v; n*1=w; n*0=v")
        self.refused(12, read_kind, 'a/b; n*0=v; n*0=')

    def test_missing_pieces(self):
        for value in [
            "a/b; n*1=v", "a/b; n*0=v; n*2=w", "a/b; n*10=v", "a/b; n*1=v; m*0=w", "a/b; m=w; n*2=v; n*1=v",
            "a/b; n*0=u; m*0=v; m*1=w; n*3=x", "a/b; n*" + "9" * 5000 + "=v", "a/b; n*0=v; n*" + "1" * 30 + "=v",
        ]:
            self.refused(len(value), read_kind, value)
            self.refused(len(value) + 4, read_kind, value + " (x)")

    def test_ends_too_soon(self):
        for value in ["", "a/b;", "a/b; n=", "a/b; n=v;", 'a/b; n="v";', "a/b; n*0=", "a/b; n*1="]:
            self.refused(len(value), read_kind, value)
            self.refused(len(value) + 2, read_kind, value + "  ")
            self.refused(len(value) + 4, read_kind, value + "(x) ")


ATOM = "[A-Za-z0-9!#$&'*+./=?^_`{|}~-]"
SORT = "[a-z][a-z0-9+-]{0,19}"
GAP = r"(?: |\(r\))*"
PAIR = rf"([a-z][a-z0-9-]{{0,19}})(?:\*(0|[1-9][0-9]*))?=(?:({ATOM}+)|\"((?:[^\"\\]|\\.)*)\")"
KIND = re.compile(rf"{GAP}({SORT})/({SORT}){GAP}((?:;{GAP}{PAIR}{GAP})*)", re.IGNORECASE)
PAIRS = re.compile(rf";{GAP}{PAIR}", re.IGNORECASE)


def read_by_the_words(value):
    """What point [17] says of a value whose remarks are all `(r)`, None where it is refused."""
    found = KIND.fullmatch(value)
    if not found:
        return None
    told = {}
    for name, number, atom, text in PAIRS.findall(found[3]):
        told.setdefault(name.lower(), []).append((number, atom or re.sub(r"\\(.)", r"\1", text)))
    pairs = []
    for name, pieces in told.items():
        numbers = [number for number, _ in pieces]
        if numbers != [""] and sorted(numbers) != sorted(str(number) for number in range(len(numbers))):
            return None
        pairs.append((name,
                      "".join(dict(pieces)[number] for number in sorted(numbers, key=lambda told: int(told or 0)))))
    return (found[1].lower(), found[2].lower(), pairs)


# Each row of words that can go on to a kind goes on so by one of these, where
# no piece but the first three ones of n and m stands in it.
PIECES = [f"; {name}*{number}=1" for name in "nm" for number in range(3)]
TAILS = [
    begin + "".join(piece for piece, kept in zip(PIECES, mask) if kept)
    for begin in ["", '"q"', " z=1"] for mask in itertools.product([0, 1], repeat=6)
]


class AsTheWordsSayTest(KindsCase):
    def place_refused(self, value):
        for word in words(value):
            begin = value[:word[3]]
            if word[0] != "remark" and not any(read_by_the_words(begin + tail) for tail in TAILS):
                return word[2]
        return len(value)

    def tried(self, value):
        told = read_by_the_words(value)
        if told is None:
            self.refused(self.place_refused(value), read_kind, value)
            return False
        self.assertEqual(read_kind(value), told)
        self.assertEqual(read_kind(show_kind(told)), told)
        return True

    def test_each_short_row(self):
        tokens = ["n=1", "n=", '"q"', ";", " ", "m*1=2", "n*0=", "(r)"]
        known = 0
        for many in range(5):
            for row in itertools.product(tokens, repeat=many):
                known += self.tried("a/b;" + "".join(row))
        self.assertGreater(known, 20)

    def test_rows_by_chance(self):
        chance = random.Random(16)
        tokens = [
            "; n=1", "; N*0=v", '; n*1="w x"', "; n*2=3", "; m*0=4", "; m*1=5", "; l=", '"q"', "; l=6", " (r) ", ";",
            "; n*02=7", " x", "; k=8",
        ]
        known = 0
        for _ in range(1500):
            known += self.tried("a/B" + "".join(chance.choice(tokens) for _ in range(chance.randint(1, 6))))
        self.assertGreater(known, 100)


class ThereAndBackTest(KindsCase):
    def some_kind(self, chance):
        names = [chance.choice(SMALL) + "".join(chance.choices(SMALL + FIGURES + "-", k=chance.choice([0, 3, 19])))
                 for _ in range(chance.randint(0, 5))]
        signs = chance.choice([SIGNS, '"\\', " a", LETTERS, "*=;"])
        pairs = [(name, "".join(chance.choices(signs, k=chance.choice([0, 1, 5, 39, 40, 41, 79, 80, 81, 120, 500]))))
                 for name in dict.fromkeys(names)]
        return ("a" + "".join(chance.choices(SMALL + "+-", k=5)), "b" + "".join(chance.choices(FIGURES, k=5)), pairs)

    def test_what_is_written_is_read_to_the_same(self):
        chance = random.Random(17)
        for _ in range(500):
            kind = self.some_kind(chance)
            self.assertEqual(read_kind(show_kind(kind)), kind)

    def test_great(self):
        kind = ("a", "b", [("n", "v " * 25000), ("m", '"' * 3000)])
        self.assertEqual(read_kind(show_kind(kind)), kind)
        many = ("a", "b", [(f"n{number}", "") for number in range(5000)])
        self.assertEqual(read_kind(show_kind(many)), many)


if __name__ == "__main__":
    unittest.main()
