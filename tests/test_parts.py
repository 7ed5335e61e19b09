import copy
import inspect
import random
import unittest

from foldletter import parts
from foldletter.codes import written_by
from foldletter.errors import LetterError, NoPart
from foldletter.heads import fold
from foldletter.kinds import show_kind
from foldletter.parts import Cover, Leaf, Many, Part

from tests.makers import CODES, some_leaf, some_part
from tests.samples import LETTERS, NO_LISTS, NO_OCTETS, NO_TEXTS, TORN_TEXTS, signs_of
from tests.test_kinds import NO_KINDS, NO_SORTS

HEADS = [("Subject", "a day"), ("X", ""), ("From", "ann")]
NO_NAMES = [
    *NO_TEXTS, *TORN_TEXTS, "", "1", "-a", "a b", "a:", "a" * 31, "a\n", "\u00e4", "Kind", "kind", "KIND", "kInD",
    "Code",
    "code", "CODE", "cOdE",
]
NO_VALUES = [*NO_TEXTS, *TORN_TEXTS, " ", " a", "a ", "\n", "a\n", "a\n b"]
NO_HEAD_LISTS = [
    *[value for value in NO_LISTS if value is not None], ("A", "b"), (("A", "b"),), {"A": "b"}, [["A", "b"]], ["Ab"],
    [("A",)], [()], [("A", "b", "c")], [None], [[]], [{}], [("A", "b"), None], [None, ("A", "b")], [(("A", "b"),)],
    *[[(name, "b")] for name in NO_NAMES], *[[("A", value)] for value in NO_VALUES],
    [*HEADS, ("Kind", "text/plain")], [("CODE", "plain"), *HEADS],
]
NO_LINES = [*NO_TEXTS, *TORN_TEXTS, "a", " ", "a\nb", "\n\nb", "\n "]
LEAF = Leaf([65, 10])
NO_MEMBERS = [
    *NO_TEXTS, "", "a", LEAF.text(), [LEAF], (LEAF,), {"a": LEAF}, Leaf, Many, Cover, Part, Part(), [65, 10], b"a",
    ("text", "plain", []),
]


def leaf_of(text, **more):
    return Leaf(signs_of(text), **more)


class PartsCase(unittest.TestCase):
    def refused(self, call, *args, **more):
        with self.assertRaises(LetterError) as caught:
            call(*args, **more)
        self.assertIs(caught.exception.__class__, NoPart)

    def unlike(self, one, *others):
        for other in others:
            self.assertFalse(one == other)
            self.assertTrue(one != other)
            self.assertFalse(other == one)
            self.assertTrue(other != one)

    def alike(self, one, other):
        self.assertTrue(one == other)
        self.assertFalse(one != other)
        self.assertTrue(other == one)


class InterfaceTest(PartsCase):
    METHODS = {
        Part: ["manner", "heads", "own_heads", "text"],
        Leaf: ["manner", "heads", "own_heads", "text", "octets", "kind", "code"],
        Many: ["manner", "heads", "own_heads", "text", "parts", "sub", "border", "ahead", "behind"],
        Cover: ["manner", "heads", "own_heads", "text", "inner"],
    }
    PARAMETERS = {
        Leaf: (["octets"], {"kind": None, "code": None, "heads": None}),
        Many: (["parts"], {"sub": "mixed", "heads": None, "ahead": "", "behind": ""}),
        Cover: (["inner"], {"heads": None}),
    }

    def test_the_classes(self):
        for sort in self.METHODS:
            self.assertEqual(sort.__module__, parts.__name__)
            self.assertTrue(issubclass(sort, Part))
        for sort in self.PARAMETERS:
            for other in self.PARAMETERS:
                self.assertEqual(issubclass(sort, other), sort is other)

    def test_each_method_stands_in_its_class(self):
        for sort, names in self.METHODS.items():
            for name in names:
                self.assertTrue(inspect.isfunction(vars(sort)[name]))
                self.assertEqual(list(inspect.signature(vars(sort)[name]).parameters), ["self"])

    def test_the_parameters(self):
        for sort, (places, names) in self.PARAMETERS.items():
            parameters = inspect.signature(sort).parameters
            self.assertEqual(list(parameters), [*places, *names])
            for name in places:
                self.assertEqual(parameters[name].kind, inspect.Parameter.POSITIONAL_OR_KEYWORD)
                self.assertEqual(parameters[name].default, inspect.Parameter.empty)
            for name, value in names.items():
                self.assertEqual(parameters[name].kind, inspect.Parameter.KEYWORD_ONLY)
                self.assertEqual(parameters[name].default, value)

    def test_by_name(self):
        leaf = Leaf(heads=HEADS, code="sixes", kind=("a", "b", []), octets=[65])
        self.assertEqual((leaf.octets(), leaf.kind(), leaf.code(), leaf.heads()),
                         ([65], ("a", "b", []), "sixes", HEADS))
        many = Many(behind="b\n", ahead="a\n", heads=HEADS, sub="c", parts=[leaf])
        self.assertEqual((many.parts(), many.sub(), many.heads(), many.ahead(), many.behind()),
                         ([leaf], "c", HEADS, "a\n", "b\n"))
        cover = Cover(heads=HEADS, inner=many)
        self.assertEqual((cover.inner(), cover.heads()), (many, HEADS))

    def test_by_place_where_it_is_by_name_alone(self):
        for call in [lambda: Leaf([], None), lambda: Many([LEAF], "mixed"), lambda: Cover(LEAF, None)]:
            with self.assertRaises(TypeError):
                call()

    def test_what_is_no_sort_of_part_tells_nothing(self):
        for name in self.METHODS[Part]:
            with self.assertRaises(NotImplementedError):
                getattr(Part(), name)()

    def test_manners(self):
        for part, word in [(LEAF, "leaf"), (Many([LEAF]), "many"), (Cover(LEAF), "cover")]:
            self.assertEqual(part.manner(), word)
            self.assertTrue(isinstance(part, Part))


class LeafTest(PartsCase):
    def test_octets_alone(self):
        leaf = Leaf([65, 10])
        self.assertEqual(leaf.octets(), [65, 10])
        self.assertEqual(leaf.kind(), ("text", "plain", []))
        self.assertEqual(leaf.code(), "plain")
        self.assertEqual(leaf.heads(), [])
        self.assertEqual(leaf.own_heads(), [("Kind", "text/plain")])
        self.assertEqual(leaf.text(), "Kind: text/plain\n\nA\n")

    def test_no_octets(self):
        self.assertEqual(Leaf([]).text(), "Kind: text/plain\n\n")
        self.assertEqual(Leaf([], code="sixes").text(), "Kind: text/plain\nCode: sixes\n\n")
        self.assertEqual(Leaf([], code="marks").text(), "Kind: text/plain\nCode: marks\n\n")

    def test_a_kind(self):
        for kind in [("a", "b", []), ("text", "html", [("n", "v")]), ("manys", "x", []), ("text", "many", []),
                     ("covers", "whole", []), ("text", "cover", []), ("a", "b", [("border", "b0")])]:
            leaf = Leaf([65, 10], kind=kind)
            self.assertEqual(leaf.kind(), kind)
            self.assertEqual(leaf.own_heads(), [("Kind", show_kind(kind))])

    def test_a_long_kind_is_folded(self):
        kind = ("a", "b", [("n", "v  " * 60), ("m", "w" * 90)])
        leaf = Leaf([], kind=kind, heads=HEADS)
        self.assertEqual(leaf.text(), "".join(fold(*head) for head in HEADS) + fold("Kind", show_kind(kind)) + "\n")
        self.assertIn("\n ", leaf.text())

    def test_each_code(self):
        for octets, code, body in [
            ([65, 10], "plain", "A\n"), ([65, 10], "sixes", "QQo=\n"), ([65, 10], "marks", "A\n"),
            ([65], "marks", "A=\n"), ([61, 10], "plain", "=\n"), ([61, 10], "marks", "=3D\n"),
            ([200], "sixes", "yA==\n"), ([200], "marks", "=C8=\n"),
        ]:
            leaf = Leaf(octets, code=code)
            self.assertEqual(leaf.code(), code)
            self.assertEqual(leaf.octets(), octets)
            own = [("Kind", "text/plain")] + [("Code", code)] * (code != "plain")
            self.assertEqual(leaf.own_heads(), own)
            self.assertEqual(leaf.text(), "".join(fold(*head) for head in own) + "\n" + body)

    def test_no_code_is_the_best_one(self):
        for octets, code in [([], "plain"), ([65, 10], "plain"), ([65], "marks"), ([65] * 73 + [10], "marks"),
                             ([200] * 9, "sixes"), ([65] * 50 + [200], "marks"), ([65, 200], "sixes")]:
            self.assertEqual(Leaf(octets).code(), code)
            self.assertEqual(Leaf(octets, code=None).code(), code)

    def test_heads(self):
        leaf = Leaf([200], heads=HEADS)
        self.assertEqual(leaf.heads(), HEADS)
        self.assertEqual(leaf.own_heads(), [*HEADS, ("Kind", "text/plain"), ("Code", "marks")])
        self.assertEqual(leaf.text(), "Subject: a day\nX:\nFrom: ann\nKind: text/plain\nCode: marks\n\n=C8=\n")

    def test_heads_folded(self):
        head = ("Subject", "word " * 40 + "end")
        self.assertEqual(Leaf([], heads=[head]).text(), fold(*head) + "Kind: text/plain\n\n")

    def test_heads_twice_and_names_nearly_told(self):
        heads = [("A", "b"), ("a", "b"), ("A", "b"), ("Kinds", "c"), ("Codes", "d"), ("Kin", ""), ("X-Kind", "e")]
        self.assertEqual(Leaf([], heads=heads).heads(), heads)

    def test_no_octets_of_any_kind(self):
        for value in NO_OCTETS:
            with self.subTest(value=ascii(value)):
                self.refused(Leaf, value)
                self.refused(Leaf, octets=value, code="marks")

    def test_no_kind_of_a_leaf(self):
        for value in [
            *[kind for kind in NO_KINDS if kind is not None], ("many", "mixed", []), ("cover", "whole", []),
            ("many", "mixed", [("border", "b0")]), ("cover", "x", [("n", "v")]),
        ]:
            with self.subTest(value=ascii(value)):
                self.refused(Leaf, [65, 10], kind=value)

    def test_no_code(self):
        for value in [
            *[text for text in NO_TEXTS if text is not None], "", "Plain", "PLAIN", "plain ", "six", "s", "m",
            ["plain"],
            ("plain",),
        ]:
            with self.subTest(value=ascii(value)):
                self.refused(Leaf, [65, 10], code=value)

    def test_a_code_that_can_not_write_the_octets(self):
        for octets in [[65], [9, 10], [37, 10], [127, 10], [200], [65] * 73 + [10], [10, 32]]:
            self.refused(Leaf, octets, code="plain")
            for code in ["sixes", "marks"]:
                self.assertEqual(Leaf(octets, code=code).octets(), octets)

    def test_no_heads(self):
        for value in NO_HEAD_LISTS:
            with self.subTest(value=ascii(value)):
                self.refused(Leaf, [65, 10], heads=value)
                self.refused(Many, [LEAF], heads=value)
                self.refused(Cover, LEAF, heads=value)


class ManyTest(PartsCase):
    def test_one_part(self):
        many = Many([LEAF])
        self.assertEqual(many.parts(), [LEAF])
        self.assertEqual(many.sub(), "mixed")
        self.assertEqual((many.ahead(), many.behind(), many.heads()), ("", "", []))
        self.assertEqual(many.border(), "b0")
        self.assertEqual(many.own_heads(), [("Kind", "many/mixed; border=b0")])
        self.assertEqual(many.text(), "Kind: many/mixed; border=b0\n\n--b0\nKind: text/plain\n\nA\n--b0--\n")

    def test_several_parts_and_all_else(self):
        many = Many([LEAF, Cover(LEAF), Leaf([])], sub="a-b+1", heads=HEADS, ahead="x\n\ny\n", behind="\nz\n")
        self.assertEqual(
            many.text(),
            "Subject: a day\nX:\nFrom: ann\nKind: many/a-b+1; border=b0\n\nx\n\ny\n"
            "--b0\nKind: text/plain\n\nA\n"
            "--b0\nKind: cover/whole\n\nKind: text/plain\n\nA\n"
            "--b0\nKind: text/plain\n\n"
            "--b0--\n\nz\n",
        )
        self.assertEqual(many.own_heads(), [*HEADS, ("Kind", "many/a-b+1; border=b0")])
        self.assertEqual((many.ahead(), many.behind(), many.sub()), ("x\n\ny\n", "\nz\n", "a-b+1"))

    def test_ahead_and_behind_of_blank_lines(self):
        many = Many([LEAF], ahead="\n", behind="\n\n")
        self.assertEqual(many.text(), "Kind: many/mixed; border=b0\n\n\n--b0\nKind: text/plain\n\nA\n--b0--\n\n\n")

    def test_manys_within_one_another(self):
        inner = Many([LEAF])
        self.assertEqual(inner.border(), "b0")
        outer = Many([inner])
        self.assertEqual(outer.border(), "b1")
        self.assertEqual(outer.text(), "Kind: many/mixed; border=b1\n\n--b1\n" + inner.text() + "--b1--\n")
        self.assertEqual(Many([Cover(outer), inner]).border(), "b2")
        self.assertEqual(Many([inner, inner]).border(), "b1")

    def test_borders_where_lines_are_in_the_way(self):
        for text, border in [
            ("--b0\n", "b1"), ("--b0--\n", "b1"), ("--b1\n", "b0"), ("--b0\n--b1--\n--b3\n", "b2"),
            ("--b0\n--b2\n", "b1"), ("--b0x\n", "b0"), ("--b0-\n", "b0"), ("--b0---\n", "b0"), ("--b\n", "b0"),
            ("-b0\n", "b0"), ("---b0\n", "b0"), (" --b0\n", "b0"), ("--b0 \n", "b0"), ("--B0\n", "b0"),
            ("--b00\n", "b0"),
            ("--\n----\n", "b0"), ("x--b0\n", "b0"), ("--b0--b0\n", "b0"), ("--b1\n--b0--\n\nA: b\n", "b2"),
            ("".join(f"--b{number}\n" for number in range(12)), "b12"),
            ("".join(f"--b{number}--\n" for number in range(11)), "b11"),
        ]:
            self.assertEqual(Many([LEAF], ahead=text).border(), border)
            if len(text) < 72:
                self.assertEqual(Many([leaf_of(text)]).border(), border)
                self.assertEqual(Many([Leaf([]), Cover(leaf_of(text)), LEAF]).border(), border)
                self.assertEqual(Many([leaf_of(text, code="marks")]).border(), border)
            self.assertEqual(Many([leaf_of(text, code="sixes")]).border(), "b0")
            self.assertEqual(Many([LEAF], behind=text).border(), "b0")

    def test_behind_is_in_the_way_of_the_many_around(self):
        inner = Many([LEAF], behind="--b0\n--b1--\n")
        self.assertEqual((inner.border(), Many([inner]).border()), ("b0", "b2"))
        inner = Many([LEAF], ahead="--b0\n")
        self.assertEqual((inner.border(), Many([inner]).border()), ("b1", "b2"))

    def test_borders_from_several_places(self):
        many = Many([leaf_of("--b1\n"), Cover(leaf_of("--b3--\n"))], ahead="--b0--\n")
        self.assertEqual(many.border(), "b2")

    def test_no_parts(self):
        for value in [*NO_LISTS, [], LEAF, (LEAF,), {"a": LEAF}, [LEAF, None]]:
            with self.subTest(value=ascii(value)):
                self.refused(Many, value)
        for value in NO_MEMBERS:
            with self.subTest(value=ascii(value)):
                self.refused(Many, [value])
                self.refused(Many, [LEAF, value, LEAF])

    def test_no_sub(self):
        for value in NO_SORTS:
            with self.subTest(value=ascii(value)):
                self.refused(Many, [LEAF], sub=value)

    def test_no_lines(self):
        for value in NO_LINES:
            with self.subTest(value=ascii(value)):
                self.refused(Many, [LEAF], ahead=value)
                self.refused(Many, [LEAF], behind=value)


class CoverTest(PartsCase):
    def test_each_sort_within(self):
        for inner in [LEAF, Leaf([200]), Many([LEAF]), Cover(LEAF)]:
            cover = Cover(inner)
            self.assertEqual(cover.inner(), inner)
            self.assertEqual(cover.heads(), [])
            self.assertEqual(cover.own_heads(), [("Kind", "cover/whole")])
            self.assertEqual(cover.text(), "Kind: cover/whole\n\n" + inner.text())

    def test_heads(self):
        cover = Cover(LEAF, heads=HEADS)
        self.assertEqual(cover.heads(), HEADS)
        self.assertEqual(cover.own_heads(), [*HEADS, ("Kind", "cover/whole")])
        self.assertEqual(cover.text(), "Subject: a day\nX:\nFrom: ann\nKind: cover/whole\n\n" + LEAF.text())

    def test_no_inner(self):
        for value in NO_MEMBERS:
            with self.subTest(value=ascii(value)):
                self.refused(Cover, value)


class AlikeTest(PartsCase):
    def test_leaves(self):
        kind = ("a", "b", [("n", "v"), ("m", "w")])
        leaf = Leaf([65, 10], kind=kind, code="marks", heads=HEADS)
        self.alike(leaf, Leaf([65, 10], kind=kind, code="marks", heads=HEADS))
        self.unlike(
            leaf, Leaf([66, 10], kind=kind, code="marks", heads=HEADS),
            Leaf([65, 10], kind=kind, code="sixes", heads=HEADS), Leaf([65, 10], kind=kind, heads=HEADS),
            Leaf([65, 10], code="marks", heads=HEADS), Leaf([65, 10], kind=kind, code="marks"),
            Leaf([65, 10], kind=("a", "b", kind[2][::-1]), code="marks", heads=HEADS),
            Leaf([65, 10], kind=("a", "c", kind[2]), code="marks", heads=HEADS),
            Leaf([65, 10], kind=("b", "b", kind[2]), code="marks", heads=HEADS),
            Leaf([65, 10], kind=("a", "b", kind[2][:1]), code="marks", heads=HEADS),
            Leaf([65], kind=kind, code="marks", heads=HEADS), Leaf([], kind=kind, code="marks", heads=HEADS),
        )
        self.alike(Leaf([65, 10]), Leaf([65, 10], kind=("text", "plain", []), code="plain", heads=[]))

    def test_manys(self):
        many = Many([LEAF, Leaf([])], sub="a", heads=HEADS, ahead="b\n", behind="c\n")
        self.alike(many, Many([Leaf([65, 10]), Leaf([])], sub="a", heads=HEADS, ahead="b\n", behind="c\n"))
        self.unlike(
            many, Many([Leaf([]), LEAF], sub="a", heads=HEADS, ahead="b\n", behind="c\n"),
            Many([LEAF], sub="a", heads=HEADS, ahead="b\n", behind="c\n"),
            Many([LEAF, Leaf([])], heads=HEADS, ahead="b\n", behind="c\n"),
            Many([LEAF, Leaf([])], sub="a", ahead="b\n", behind="c\n"),
            Many([LEAF, Leaf([])], sub="a", heads=HEADS, behind="c\n"),
            Many([LEAF, Leaf([])], sub="a", heads=HEADS, ahead="b\n"),
            Many([LEAF, Cover(Leaf([]))], sub="a", heads=HEADS, ahead="b\n", behind="c\n"),
        )

    def test_covers(self):
        cover = Cover(LEAF, heads=HEADS)
        self.alike(cover, Cover(Leaf([65, 10]), heads=HEADS))
        self.unlike(cover, Cover(LEAF), Cover(Leaf([]), heads=HEADS), Cover(Cover(LEAF), heads=HEADS))
        self.alike(Cover(Cover(Many([LEAF]))), Cover(Cover(Many([Leaf([65, 10])]))))
        self.unlike(Cover(Cover(Many([LEAF]))), Cover(Cover(Many([Leaf([66, 10])]))))

    def test_heads(self):
        for made in [lambda heads: Leaf([], heads=heads), lambda heads: Many([LEAF], heads=heads),
                     lambda heads: Cover(LEAF, heads=heads)]:
            one = made([("Subject", "a Day"), ("From", "ann")])
            self.alike(one, made([("subject", "a Day"), ("FROM", "ann")]))
            self.unlike(one, made([("From", "ann"), ("Subject", "a Day")]),
                        made([("Subject", "a day"), ("From", "ann")]),
                        made([("Subject", "a Day")]), made([("Subject", "a Day"), ("From", "ann"), ("From", "ann")]),
                        made([("Subjects", "a Day"), ("From", "ann")]))

    def test_names_within(self):
        self.alike(Many([Cover(Leaf([], heads=[("A", "b")]))]), Many([Cover(Leaf([], heads=[("a", "b")]))]))

    def test_parts_of_other_sorts(self):
        self.unlike(LEAF, Many([LEAF]), Cover(LEAF))
        self.unlike(Many([LEAF]), Cover(LEAF))

    def test_what_is_no_part(self):
        for part in [LEAF, Many([LEAF]), Cover(LEAF)]:
            self.unlike(part, *NO_MEMBERS, part.text(), part.octets() if part is LEAF else None)

    def test_told_by_things_not_by_object(self):
        chance = random.Random(21)
        for _ in range(50):
            part = some_part(chance)
            self.alike(part, copy.deepcopy(part))


class NeverChangeTest(PartsCase):
    def test_lists_told_are_new(self):
        chance = random.Random(22)
        for _ in range(100):
            part = some_part(chance)
            kept = copy.deepcopy(part)
            for name in InterfaceTest.METHODS[part.__class__]:
                told = getattr(part, name)()
                if isinstance(told, list):
                    self.assertIsNot(told, getattr(part, name)())
                    told.append(None)
                    told.reverse()
                if name == "kind":
                    self.assertIsNot(told[2], part.kind()[2])
                    told[2].append(("z", "z"))
            self.assertEqual(part, kept)
            self.assertEqual(part.text(), kept.text())
            self.assertEqual(part.own_heads(), kept.own_heads())

    def test_lists_changed_behind_their_being_handed_in(self):
        octets, pairs, heads = [65, 10], [("n", "v")], list(HEADS)
        leaf = Leaf(octets, kind=("a", "b", pairs), heads=heads)
        inner = [leaf, LEAF]
        many = Many(inner, heads=heads)
        cover = Cover(many, heads=heads)
        texts = [part.text() for part in [leaf, many, cover]]
        octets[0] = 66
        pairs.clear()
        heads.pop()
        inner.reverse()
        self.assertEqual((leaf.octets(), leaf.kind(), leaf.heads()), ([65, 10], ("a", "b", [("n", "v")]), HEADS))
        self.assertEqual((many.parts(), many.heads(), cover.heads()), ([leaf, LEAF], HEADS, HEADS))
        self.assertEqual([part.text() for part in [leaf, many, cover]], texts)

    def test_nothing_handed_in_is_changed(self):
        octets, kind, heads = [65, 200], ("a", "b", [("n", "v")]), list(HEADS)
        inner = [Leaf(octets, kind=kind, heads=heads)]
        Cover(Many(inner, heads=heads), heads=heads)
        self.assertEqual((octets, kind, heads), ([65, 200], ("a", "b", [("n", "v")]), HEADS))
        self.assertEqual(inner, [Leaf([65, 200], kind=kind, heads=heads)])
        self.refused(Leaf, octets, code="plain", heads=heads)
        self.refused(Many, [*inner, None], heads=heads)
        self.assertEqual((octets, heads), ([65, 200], HEADS))

    def test_a_part_may_stand_in_several_ones(self):
        many = Many([LEAF, LEAF, Cover(LEAF)])
        self.assertEqual(Many([many, many]).parts(), [many, many])
        self.assertEqual(LEAF.text(), "Kind: text/plain\n\nA\n")


class WrittenTest(PartsCase):
    def written(self, part):
        """What points [22] and [23] say."""
        if part.manner() == "leaf":
            kind, body = show_kind(part.kind()), None
        elif part.manner() == "cover":
            kind, body = "cover/whole", self.written(part.inner())
        else:
            kind = show_kind(("many", part.sub(), [("border", part.border())]))
            line = "--" + part.border()
            within = "".join(line + "\n" + self.written(one) for one in part.parts())
            body = part.ahead() + within + line + "--\n" + part.behind()
        own = [*part.heads(), ("Kind", kind)]
        if part.manner() == "leaf":
            body = written_by(part.octets(), part.code())
            own += [("Code", part.code())] * (part.code() != "plain")
        self.assertEqual(part.own_heads(), own)
        return "".join(fold(*head) for head in own) + "\n" + body

    def least_border(self, many):
        lines = (many.ahead() + "".join(part.text() for part in many.parts())).split("\n")
        return next(f"b{number}" for number in range(1000)
                    if f"--b{number}" not in lines and f"--b{number}--" not in lines)

    def test_by_chance(self):
        chance = random.Random(23)
        for _ in range(200):
            part = some_part(chance, 4)
            self.assertEqual(part.text(), self.written(part))
            if part.manner() == "many":
                self.assertEqual(part.border(), self.least_border(part))

    def test_leaves_by_chance(self):
        chance = random.Random(24)
        seen = set()
        for _ in range(200):
            leaf = some_leaf(chance)
            self.assertEqual(leaf.text(), self.written(leaf))
            seen.add(leaf.code())
        self.assertEqual(seen, set(CODES))

    def test_names_as_they_were_handed_in(self):
        heads = [(letter + "-" + letter.swapcase(), letter) for letter in LETTERS]
        self.assertEqual(Leaf([], heads=heads).heads(), heads)
        self.assertTrue(Leaf([], heads=heads).text().startswith("a-A: a\nb-B: b\n"))


if __name__ == "__main__":
    unittest.main()
