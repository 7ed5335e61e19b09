import copy
import inspect
import itertools
import random
import re
import unittest

from foldletter import addresses
from foldletter.addresses import read_addresses, show_addresses
from foldletter.errors import LetterError, NoAddress
from foldletter.sayings import coded

from tests.samples import FIGURES, LETTERS, NO_LISTS, NO_TEXTS, NO_WHOLES, SIGNS, TORN_TEXTS, signs_of

ANN = ("one", [], "ann", "home")
BOB = ("one", signs_of("Bob"), "bob", "sea.org")
FRIENDS = ("group", signs_of("Friends"), [ANN, BOB])

NO_SAYINGS = [
    *NO_LISTS, (65,), [31], [65536], [-1], [65, 31], [[65]], [10], *[[value] for value in NO_WHOLES],
]
NO_LOCALS = [*NO_TEXTS, *TORN_TEXTS, "", "a" * 41, "a" * 100, "a\n", "\n", "a\nb"]
NO_HOUSES = [
    *NO_TEXTS, *TORN_TEXTS, "", ".", "a.", ".a", "a..b", "-", "-a", "a-", "a.-b", "a-.b", "a.b-", "-.a", "A", "a.B",
    "a" * 21, "a." + "b" * 21, "a" * 21 + ".b", "a b", " a", "a ", "a\n", "a_b", "a@b", "a,b", "a/b", "a+b", "a!b",
    "a:1",
]
NO_ONES = [
    *NO_LISTS, ANN[:3], (*ANN, "a"), (), ("one",), list(ANN), ("ONE", [], "a", "b"), ("ones", [], "a", "b"),
    ("", [], "a", "b"), (None, [], "a", "b"), (1, [], "a", "b"), (["one"], [], "a", "b"), ("group", [], "a", "b"),
    ("one", "ann", "home"), ("one", [], "a"), ([], "a", "b"), ("one", ("a", "b")), ("one", [], ("a", "b")),
    *[("one", value, "a", "b") for value in NO_SAYINGS],
    *[("one", [], value, "b") for value in NO_LOCALS],
    *[("one", [], "a", value) for value in NO_HOUSES],
]
NO_GROUPS = [
    ("group", [65]), ("group", [65], [], []), ("group",), ["group", [65], []], ("Group", [65], []), ("one", [65], []),
    (None, [65], []), ("group", [], []), ("group", [], [ANN]),
    *[("group", value, []) for value in NO_SAYINGS],
    *[("group", [65], value) for value in NO_LISTS],
    *[("group", [65], [value]) for value in NO_ONES],
    *[("group", [65], [ANN, value, BOB]) for value in NO_ONES],
    ("group", [65], (ANN,)), ("group", [65], ANN), ("group", [65], [FRIENDS]), ("group", [65], [("group", [65], [])]),
    ("group", [65], [[ANN]]),
]


def shown_by_the_words(told):
    """What point [12] says of a list of addresses, where its locals are atoms."""
    shown = []
    for address in told:
        phrase = coded(address[1])
        if not phrase.startswith("=?") and not re.fullmatch(r"[A-Za-z0-9!#$&'*+./=?^_`{|}~-]+", phrase):
            phrase = '"' + re.sub(r'(["\\])', r"\\\1", phrase) + '"'
        if address[0] == "group":
            ones = shown_by_the_words(address[2])
            shown.append(phrase + ":" + (" " + ones if ones else "") + ";")
        else:
            spec = address[2] + "@" + address[3]
            shown.append(phrase + " <" + spec + ">" if address[1] else spec)
    return ", ".join(shown)


class AddressesCase(unittest.TestCase):
    def refused(self, at, call, *args, **more):
        with self.assertRaises(LetterError) as caught:
            call(*args, **more)
        self.assertIs(caught.exception.__class__, NoAddress)
        self.assertEqual(caught.exception.at, at)

    def reads(self, value, *wanted):
        self.assertEqual(read_addresses(value), list(wanted))

    def reads_saying(self, phrase, saying):
        """That a phrase tells a saying, ahead of a one and of a group."""
        numbers = signs_of(saying) if isinstance(saying, str) else saying
        self.reads(phrase + "<a@b>", ("one", numbers, "a", "b"))
        if numbers:
            self.reads(phrase + ":;", ("group", numbers, []))

    def there_and_back(self, told, value):
        self.assertEqual(show_addresses(told), value)
        self.assertEqual(read_addresses(value), told)


class InterfaceTest(AddressesCase):
    def test_the_parameters(self):
        for function, name in [(show_addresses, "addresses"), (read_addresses, "value")]:
            self.assertTrue(inspect.isfunction(function))
            self.assertEqual(list(inspect.signature(function).parameters), [name])
            self.assertEqual(function.__module__, addresses.__name__)

    def test_by_name(self):
        self.assertEqual(show_addresses(addresses=[ANN]), "ann@home")
        self.assertEqual(read_addresses(value="ann@home"), [ANN])

    def test_refused_by_name(self):
        self.refused(0, show_addresses, addresses=None)
        self.refused(0, read_addresses, value=None)
        self.refused(3, read_addresses, value="ann")

    def test_kinds_of_what_is_told(self):
        self.assertIs(show_addresses([]).__class__, str)
        told = read_addresses("a@b, C <d@e>, F: g@h, I <j@k>;")
        self.assertIs(told.__class__, list)
        self.assertEqual([address.__class__ for address in told], [tuple] * 3)
        self.assertIs(told[2][2].__class__, list)
        for one in [told[0], told[1], *told[2][2]]:
            self.assertEqual([thing.__class__ for thing in one], [str, list, str, str])
        self.assertEqual([thing.__class__ for thing in told[2]], [str, list, list])

    def test_what_is_told_is_new(self):
        value = "a@b, C <d@e>, F: g@h;"
        told = read_addresses(value)
        kept = copy.deepcopy(told)
        told[0][1].append(65)
        told[1][1].append(65)
        told[2][1].clear()
        told[2][2].clear()
        told.pop()
        self.assertEqual(read_addresses(value), kept)
        self.assertIsNot(read_addresses(""), read_addresses(""))

    def test_nothing_handed_in_is_changed(self):
        told = [ANN, BOB, FRIENDS, ("one", [228, 32] * 50, "a b", "c"), ("group", [32], [])]
        kept = copy.deepcopy(told)
        show_addresses(told)
        self.assertEqual(told, kept)
        torn = [*kept, ("one", [31], "a", "b")]
        kept = copy.deepcopy(torn)
        self.refused(0, show_addresses, torn)
        self.assertEqual(torn, kept)


class ShowTest(AddressesCase):
    def test_no_addresses(self):
        self.there_and_back([], "")

    def test_ones_without_a_saying(self):
        self.there_and_back([ANN], "ann@home")
        self.there_and_back([("one", [], "a.b", "c.d-e.f0")], "a.b@c.d-e.f0")

    def test_ones_with_a_saying(self):
        self.there_and_back([BOB], "Bob <bob@sea.org>")
        self.there_and_back([("one", signs_of("Bob B."), "bob", "sea")], '"Bob B." <bob@sea>')

    def test_several(self):
        self.there_and_back([ANN, BOB], "ann@home, Bob <bob@sea.org>")
        self.there_and_back([ANN] * 8, ", ".join(["ann@home"] * 8))
        self.there_and_back([ANN] * 20, ", ".join(["ann@home"] * 20))

    def test_groups(self):
        self.there_and_back([("group", signs_of("None"), [])], "None:;")
        self.there_and_back([("group", signs_of("One"), [ANN])], "One: ann@home;")
        self.there_and_back([FRIENDS], "Friends: ann@home, Bob <bob@sea.org>;")
        self.there_and_back([ANN, FRIENDS, ("group", [65], []), BOB],
                            "ann@home, Friends: ann@home, Bob <bob@sea.org>;, A:;, Bob <bob@sea.org>")

    def test_sayings_as_quoted_text(self):
        for saying, phrase in [
            ("a  b", '"a  b"'), ('a"b\\', '"a\\"b\\\\"'), ("a,b", '"a,b"'), ("(a)", '"(a)"'), ("a@b", '"a@b"'),
            ("=", "="),
            ("?=", "?="), ("<", '"<"'), ("a.b", "a.b"), ("J. Q. Ann", '"J. Q. Ann"'), ("=s?QQ", "=s?QQ"),
        ]:
            self.there_and_back([("one", signs_of(saying), "a", "b")], phrase + " <a@b>")
            self.there_and_back([("group", signs_of(saying), [])], phrase + ":;")

    def test_sayings_as_coded_words(self):
        for saying, phrase in [
            ([228], "=?s?w6Q=?="), ([32], "=?m?_?="), ([37], "=?m?=25?="), (signs_of("=?"), "=?s?PT8=?="),
            ([65, 66, 67, 68, 32], "=?m?ABCD_?="), ([8364] * 14, "=?s?" + "4oKs" * 13 + "?= =?s?4oKs?="),
            ([32] + [65] * 108, "=?m?_" + "A" * 53 + "?= =?m?" + "A" * 54 + "?= =?m?A?="),
            (signs_of("=?s?QQ==?="), coded(signs_of("=?s?QQ==?="))),
        ]:
            self.there_and_back([("one", saying, "a", "b")], phrase + " <a@b>")
            self.there_and_back([("group", saying, [("one", saying, "a", "b")])], phrase + ": " + phrase + " <a@b>;")

    def test_locals_that_are_an_atom(self):
        for local in ["a", "a" * 40, "Ann", "a.b", "0", "-", ".", "=?m?A?=", "!#$&'*+-./=?^_`{|}~"]:
            self.there_and_back([("one", [], local, "b")], local + "@b")
            self.there_and_back([("one", [65], local, "b")], "A <" + local + "@b>")

    def test_locals_that_are_no_atom(self):
        for local, shown in [
            (" ", '" "'), ("a b", '"a b"'), (" a ", '" a "'), ('"', '"\\""'), ("\\", '"\\\\"'), ("a@b", '"a@b"'),
            ("(", '"("'),
            ("a,b;c", '"a,b;c"'), (" " * 40, '"' + " " * 40 + '"'), ('"' * 40, '"' + '\\"' * 40 + '"'), (">", '">"'),
        ]:
            self.there_and_back([("one", [], local, "b")], shown + "@b")
            self.there_and_back([("one", [65], local, "b")], "A <" + shown + "@b>")

    def test_each_sign_of_a_local(self):
        for sign in SIGNS:
            told = [("one", [], sign, "b"), ("one", [65], "a" + sign, "b")]
            self.assertEqual(read_addresses(show_addresses(told)), told)

    def test_houses(self):
        small = "".join(sign for sign in LETTERS if sign == sign.lower())
        for house in [
            "a", "0", "a-b", "a--b", "a.b", "a" * 20, ".".join(["a" * 20] * 9), "1.2.3.4", "a-0.0-a", "a.b.c.d.e.f",
            *small, *FIGURES, small[:20], small[6:],
        ]:
            self.there_and_back([("one", [], "a", house)], "a@" + house)

    def test_signs_that_no_house_has(self):
        for sign in SIGNS:
            if sign not in "abcdefghijklmnopqrstuvwxyz.-" + FIGURES:
                self.refused(0, show_addresses, [("one", [], "a", "b" + sign + "c")])
                self.refused(0, show_addresses, [("one", [], "a", sign)])

    def test_no_list_of_addresses(self):
        for value in [*NO_LISTS, ANN, (ANN,), {"one": ANN}, "ann@home", [[ANN]], [[]], [()]]:
            with self.subTest(value=ascii(value)):
                self.refused(0, show_addresses, value)

    def test_no_address(self):
        for value in [*NO_ONES, *NO_GROUPS]:
            with self.subTest(value=ascii(value)):
                self.refused(0, show_addresses, [value])
                self.refused(0, show_addresses, [ANN, FRIENDS, value])
                self.refused(0, show_addresses, [value, ANN])

    def test_a_list_within_itself(self):
        told = []
        told.append(("group", [65], told))
        self.refused(0, show_addresses, told)


class ReadTest(AddressesCase):
    def test_no_words(self):
        for value in ["", " ", "    ", "()", " (a) ", "(a)(b (c))", "(<a@b>,)"]:
            self.reads(value)

    def test_specs(self):
        self.reads("a@b", ("one", [], "a", "b"))
        self.reads('"a b"@c.d', ("one", [], "a b", "c.d"))
        self.reads("  a  @  b  ", ("one", [], "a", "b"))
        self.reads("(x)a(y)@(z)b(w)", ("one", [], "a", "b"))
        self.reads("a.b+c@d", ("one", [], "a.b+c", "d"))
        self.reads('"a"@b', ("one", [], "a", "b"))
        self.reads("A@b", ("one", [], "A", "b"))

    def test_specs_with_a_phrase(self):
        for value in [
            "A<a@b>", "A <a@b>", "  A  <  a  @  b  >  ", "(x)A(y)<(z)a(w)@(v)b(u)>(t)", '"A"<"a"@b>', "A(<)<a@b>",
        ]:
            self.reads(value, ("one", [65], "a", "b"))

    def test_the_phrase_may_be_missing(self):
        self.reads("<a@b>", ("one", [], "a", "b"))
        self.reads(" (x) < a@b >, <c@d>", ("one", [], "a", "b"), ("one", [], "c", "d"))
        self.reads("A: <a@b>;", ("group", [65], [("one", [], "a", "b")]))

    def test_several(self):
        self.reads("a@b,c@d", ("one", [], "a", "b"), ("one", [], "c", "d"))
        self.reads("a@b , C <d@e> ,F:;, <g@h>",
                   ("one", [], "a", "b"), ("one", [67], "d", "e"), ("group", [70], []), ("one", [], "g", "h"))
        self.reads(",".join(["a@b"] * 50), *[("one", [], "a", "b")] * 50)

    def test_groups(self):
        self.reads("A:;", ("group", [65], []))
        self.reads(" A : ; ", ("group", [65], []))
        self.reads("(x)A(y):(z);(w)", ("group", [65], []))
        self.reads("A:a@b;", ("group", [65], [("one", [], "a", "b")]))
        self.reads("A B: a@b, C <d@e>, <f@g>;",
                   ("group", signs_of("A B"), [("one", [], "a", "b"), ("one", [67], "d", "e"), ("one", [], "f", "g")]))
        self.reads("A:;,B:;", ("group", [65], []), ("group", [66], []))

    def test_houses_in_great_letters(self):
        self.reads("a@HOME", ("one", [], "a", "home"))
        self.reads("A <a@Sea.ORG>", ("one", [65], "a", "sea.org"))
        self.reads("A: a@B-C.D0;", ("group", [65], [("one", [], "a", "b-c.d0")]))

    def test_phrases_of_atoms_and_quoted_words(self):
        self.reads_saying("A", "A")
        self.reads_saying("A B  C ", "A B C")
        self.reads_saying('"A"', "A")
        self.reads_saying('"A  B"', "A  B")
        self.reads_saying('" A "', " A ")
        self.reads_saying('A "B" C', "A B C")
        self.reads_saying('"A""B"', "A B")
        self.reads_saying('A"B"', "A B")
        self.reads_saying('"a\\"b\\\\" c', 'a"b\\ c')
        self.reads_saying("A (x) B", "A B")
        self.reads_saying("A(x)B", "A B")
        self.reads_saying("J. Q. Ann", "J. Q. Ann")

    def test_phrases_of_no_signs(self):
        self.reads('"" <a@b>', ("one", [], "a", "b"))
        self.reads_saying('"" ""', " ")
        self.reads_saying('A ""', "A ")
        self.reads_saying('"" A', " A")
        self.reads_saying('""""""', "  ")

    def test_phrases_of_coded_words(self):
        self.reads_saying("=?m?A?=", "A")
        self.reads_saying("=?s?w6Q=?=", [228])
        self.reads_saying("=?m?A?= =?s?Qg==?=", "AB")
        self.reads_saying("=?m?A?=    (x) =?m?B?=  =?m?C?=", "ABC")
        self.reads_saying("=?m?A?=(x)=?m?B?=", "AB")
        self.reads_saying("=?m?" + "A" * 100 + "?=", "A" * 100)

    def test_blanks_beside_coded_words(self):
        self.reads_saying("A =?m?B?=", "A B")
        self.reads_saying("=?m?A?= B", "A B")
        self.reads_saying("A =?m?B?= =?m?C?= D", "A BC D")
        self.reads_saying('=?m?A?= "B" =?m?C?=', "A B C")
        self.reads_saying('=?m?A?= "" =?m?B?=', "A  B")

    def test_a_quoted_word_is_no_coded_word(self):
        self.reads_saying('"=?m?A?="', "=?m?A?=")
        self.reads_saying('=?m?A?= "=?m?B?="', "A =?m?B?=")
        self.reads_saying('"=?m?A?=" "=?m?B?="', "=?m?A?= =?m?B?=")

    def test_what_is_nearly_a_coded_word(self):
        for atom in [
            "=?m??=", "=?x?A?=", "=?m?=c3=a4?=", "=?s?QR==?=", "=?m?=C3?=", "=?m?A?=x", "x=?m?A?=", "=?m?A?==?m?B?=",
        ]:
            self.reads_saying(atom, atom)
            self.reads_saying("=?m?A?= " + atom + " =?m?B?=", "A " + atom + " B")

    def test_a_local_is_no_coded_word(self):
        self.reads("=?m?A?=@b", ("one", [], "=?m?A?=", "b"))
        self.reads("A <=?m?A?=@b>", ("one", [65], "=?m?A?=", "b"))

    def test_locals_of_one_and_forty_signs(self):
        for local in ["a", "a" * 40]:
            self.reads(local + "@b", ("one", [], local, "b"))
            self.reads("<" + local + "@b>", ("one", [], local, "b"))
            self.reads('"' + local + '"@b', ("one", [], local, "b"))
        self.reads('"' + "\\\\" * 40 + '"@b', ("one", [], "\\" * 40, "b"))

    def test_great(self):
        self.reads("(a)" * 15000 + "a@b", ("one", [], "a", "b"))
        self.reads_saying("a " * 20000, " ".join(["a"] * 20000))

    def test_what_is_told_may_be_handed_in_again(self):
        told = read_addresses("A: " + "a@b, " * 9000 + "=?m?" + "A" * 9000 + "?= <c@d>;")
        self.assertTrue(read_addresses(show_addresses(told)) == told)


class ReadRefusedTest(AddressesCase):
    def test_no_text_without_line_feeds(self):
        for value in [*NO_TEXTS, *TORN_TEXTS, "\n", "a@b\n", "\na@b", "a\n@b", "a@b,\n c@d", "a)\n"]:
            with self.subTest(value=ascii(value)):
                self.refused(0, read_addresses, value)

    def test_what_can_not_be_cut_to_words(self):
        for value, at in [(")", 0), ("a@b )", 4), ("a@b (", 4), ('a "b', 2), ("a\\", 1), ("\\", 0), ("a@b, (c) \\", 9)]:
            self.refused(at, read_addresses, value)

    def test_what_can_not_be_cut_goes_first(self):
        for value, at in [(",)", 1), ("@@@ (", 4), ('a b c "', 6), ('""@b \\', 5), ("a@b c@d )", 8)]:
            self.refused(at, read_addresses, value)

    def test_no_address_begins_so(self):
        for sign in "@>,;:[]":
            self.refused(0, read_addresses, sign)
            self.refused(2, read_addresses, "  " + sign + " a@b")
            self.refused(3, read_addresses, "(x)" + sign)
            self.refused(4, read_addresses, "a@b," + sign)
            self.refused(5, read_addresses, "a@b, " + sign + "c@d")
            if sign != ";":
                self.refused(3, read_addresses, "A: " + sign + ";")
            self.refused(7, read_addresses, "A: a@b," + sign)

    def test_behind_a_phrase(self):
        for sign in ">,;[]":
            self.refused(1, read_addresses, "a" + sign)
            self.refused(5, read_addresses, "a b  " + sign)
            self.refused(4, read_addresses, "A: b" + sign)
        self.refused(3, read_addresses, "a b@c")
        self.refused(4, read_addresses, "a b @c")
        self.refused(5, read_addresses, '"a"b @c')
        self.refused(6, read_addresses, "A: b c@d")
        self.refused(4, read_addresses, "A: b:;")
        self.refused(4, read_addresses, "A: b: c@d;;")

    def test_a_local_of_no_signs(self):
        self.refused(2, read_addresses, '""@b')
        self.refused(4, read_addresses, ' "" @b')
        self.refused(6, read_addresses, '""(x) @ b')
        self.refused(3, read_addresses, '<""@b>')
        self.refused(5, read_addresses, 'A <""@b>')
        self.refused(5, read_addresses, 'A: ""@b;')
        self.refused(7, read_addresses, 'a@b, ""@b')
        self.refused(2, read_addresses, '""@')
        self.refused(2, read_addresses, '""@,')

    def test_a_local_of_too_many_signs(self):
        for many in [41, 42, 100]:
            self.refused(many, read_addresses, "a" * many + "@b")
            self.refused(many + 3, read_addresses, '"' + "a" * many + '" @b')
            self.refused(many + 1, read_addresses, "<" + "a" * many + "@b>")
            self.refused(many + 3, read_addresses, "A: " + "a" * many + "@b;")

    def test_such_words_may_be_a_phrase(self):
        self.reads('""<a@b>', ("one", [], "a", "b"))
        self.reads("a" * 41 + "<a@b>", ("one", signs_of("a" * 41), "a", "b"))
        self.reads("a" * 41 + ":;", ("group", signs_of("a" * 41), []))

    def test_a_group_without_signs(self):
        self.refused(2, read_addresses, '"":;')
        self.refused(4, read_addresses, ' "" : a@b;')
        self.refused(5, read_addresses, '""(x):;')
        self.refused(7, read_addresses, 'a@b, "":;')
        self.refused(2, read_addresses, '"":')

    def test_no_house(self):
        for word in [
            "-a", "a-", "a..b", "a.", ".a", ".", "a_b", "a" * 21, "A" * 21, "a." + "b" * 21, "a/b", '"a"', '""', "<",
            ",", "@", ":",
        ]:
            self.refused(2, read_addresses, "a@" + word)
            self.refused(4, read_addresses, "a @ " + word + " , b@c")
            self.refused(6, read_addresses, "A <a@ " + word + ">")
            self.refused(5, read_addresses, "A: a@" + word + ";")

    def test_behind_an_open_sign(self):
        for word in ["<", ">", "@", ",", ":", ";", "[", "]"]:
            self.refused(1, read_addresses, "<" + word)
            self.refused(3, read_addresses, "A <" + word + "a@b>")
            self.refused(4, read_addresses, "A: <" + word)
        for word in ["<", ">", ",", ":", ";", "[", "]", "b", '"b"']:
            self.refused(3, read_addresses, "<a " + word + "@b>")

    def test_behind_a_spec(self):
        for word in ["<", "@", ":", ";", "[", "]", "c", '"c"', ">"]:
            self.refused(4, read_addresses, "a@b " + word)
            if word != ";":
                self.refused(7, read_addresses, "A: a@b " + word)
        for word in ["<", "@", ":", ";", "[", "]", "c", '"c"', ","]:
            self.refused(5, read_addresses, "<a@b " + word)
            self.refused(8, read_addresses, "A: <a@b " + word)
        for word in ["<", "@", ":", ";", "[", "]", "c", '"c"', ">"]:
            self.refused(6, read_addresses, "<a@b> " + word)

    def test_behind_a_group(self):
        for word in ["<", "@", ":", ";", "[", "]", "c", '"c"', ">"]:
            self.refused(3, read_addresses, "A:;" + word)
            self.refused(8, read_addresses, "A: a@b; " + word)

    def test_a_comma_in_a_group_with_nothing_behind(self):
        self.refused(7, read_addresses, "A: a@b,;")
        self.refused(2, read_addresses, "A:,;")

    def test_ends_too_soon(self):
        for value in [
            "a", "a b", '"a"', "a@", "<", "<a", "<a@", "<a@b", "A <", "A <a", "A <a@", "A <a@b", "a@b,", "A:", "A: a",
            "A: a@", "A: a@b", "A: a@b,", "A: <a@b>", "A: B <a@b", "a@b, c", "A:;,", '""', '<""', "<" + "a" * 41,
            "A: a b",
        ]:
            self.refused(len(value), read_addresses, value)
            self.refused(len(value) + 2, read_addresses, value + "  ")
            self.refused(len(value) + 6, read_addresses, value + " (x)  ")


WORDS = {
    "a": "ab", "x": "a_b", "c": "=?m?A?=", "e": '""', "q": '"a"', "l": "a" * 41, "@": "@", "<": "<", ">": ">", ",": ",",
    ":": ":", ";": ";", "[": "[",
}
SPEC = "[axceql]@a"
ONE = f"(?:{SPEC}|[axceql]*<{SPEC}>)"
ADDRESS = f"(?:{ONE}|[axceql]+:(?:{ONE}(?:,{ONE})*)?;)"
LIST = re.compile(f"(?:{ADDRESS}(?:,{ADDRESS})*)?")
# Each row of words that can go on to a list goes on so by one of these.
TAILS = [tail + end for tail in ["", "a@a", "@a", "a", "a>", "@a>", ">", "a@a>", "<a@a>"] for end in ["", ";"]]


class AsTheWordsSayTest(AddressesCase):
    def refused_word(self, row):
        """The number of the word that point [13] refuses, or how many there are where it ends too soon."""
        for number, word in enumerate(row):
            begin = row[:number + 1]
            if not any(LIST.fullmatch(begin + tail) for tail in TAILS):
                return number
            if word == "@" and row[number - 1] in "el":
                return number
            if word == ":" and row[number - 1] == "e" and (number == 1 or row[number - 2] in ",:;"):
                return number
        return None if LIST.fullmatch(row) else len(row)

    def test_each_short_row_of_words(self):
        known = 0
        for words, size in [("".join(WORDS), 4), ("ae@<>,:;", 5)]:
            for many in range(size + 1):
                for row in map("".join, itertools.product(words, repeat=many)):
                    value = "".join(WORDS[word] + " " for word in row)
                    number = self.refused_word(row)
                    if number is None:
                        known += 1
                        told = read_addresses(value)
                        self.assertEqual(read_addresses(show_addresses(told)), told)
                    else:
                        begin = len("".join(WORDS[word] + " " for word in row[:number]))
                        self.refused(begin, read_addresses, value)
        self.assertGreater(known, 50)


def some_saying(chance, least):
    signs = chance.choice([[65, 32], range(32, 127), range(32, 300), range(32, 65536), [61, 63, 65], [34, 92, 65]])
    return [chance.choice(signs) for _ in range(chance.choice([least, 1, 2, 5, 40, 200]))]


def some_one(chance):
    local = "".join(chance.choice(SIGNS) for _ in range(chance.choice([1, 2, 10, 40])))
    house = ".".join(chance.choice(["a", "b-c", "0", "a" * 20]) for _ in range(chance.randint(1, 4)))
    return ("one", some_saying(chance, 0), local, house)


class ThereAndBackTest(AddressesCase):
    def test_what_is_written_is_read_to_the_same_list(self):
        chance = random.Random(9)
        for _ in range(200):
            told = []
            for _ in range(chance.randint(0, 5)):
                ones = [some_one(chance) for _ in range(chance.randint(0, 3))]
                told.append(chance.choice([some_one(chance), ("group", some_saying(chance, 1), ones)]))
            self.assertEqual(read_addresses(show_addresses(told)), told)

    def test_as_the_words_say(self):
        chance = random.Random(10)
        for _ in range(200):
            ones = [("one", some_saying(chance, 0), "ann.b", "home.org") for _ in range(3)]
            told = [*ones, ("group", some_saying(chance, 1), ones[:chance.randint(0, 3)]), *ones[1:]]
            self.there_and_back(told, shown_by_the_words(told))


if __name__ == "__main__":
    unittest.main()
