import copy
import inspect
import random
import unittest

from foldletter import changing
from foldletter.changing import done, drop_head, drop_part, led, put_body, put_head, put_part
from foldletter.codes import written_by
from foldletter.errors import NoBorder, NoChange, NoCode, NoHead, NoLetter, NoOctets, NoPart, NoPath, NoPlace, NoText
from foldletter.heads import fold
from foldletter.letters import is_sound, read_letter
from foldletter.looking import Look
from foldletter.parts import Cover, Leaf, Many

from tests.cases import RefusedCase
from tests.makers import some_heads, some_leaf, some_octets, some_part, some_value
from tests.samples import NO_OCTETS, NO_TEXTS, NO_WHOLES, SIGNS, TORN_TEXTS, signs_of
from tests.test_looking import NO_PATHS
from tests.test_parts import NO_MEMBERS

LEAF = "A: b\nKind: x/y\nC: d\nCode: marks\na: e\n\nz\n"
COVER = "A: b\nKind: cover/whole\nC: d\n\n" + LEAF
MANY = "Kind: many/x; border=b0\nA: b\n\na\n--b0\n" + LEAF + "--b0\n\n--b0\n" + COVER + "--b0--\nb\n--b0\n"

NO_NAMES = [*NO_TEXTS, *TORN_TEXTS, "", "1", "-a", "a b", "a:", "a" * 31, "A\n", " A", "A ", "Kind", "kind", "kInD",
            "Code",
            "CODE", "coDE"]
NO_VALUES = [*NO_TEXTS, *TORN_TEXTS, " ", " a", "a ", "\n", "a\n", "a\n b"]
NO_CHANGES = [
    *NO_TEXTS, "", "a", [0, 0, ""], (0, 0), (0,), (0, 0, "", ""), ("", 0, 0), (0, "", 0), {0: 0}, ((0, 0, ""),),
    (-1, 0, ""),
    (-2, -1, ""), (1, 0, ""), (2, 1, "a"), (0, -1, ""),
    *[(value, 1, "a") for value in NO_WHOLES], *[(0, value, "a") for value in NO_WHOLES],
    *[(0, 0, value) for value in [*NO_TEXTS, *TORN_TEXTS]],
]


def with_part(part, path, changed):
    """A part with the one at a path within it changed by a function."""
    if path == ():
        return changed(part)
    if part.manner() == "cover":
        return Cover(with_part(part.inner(), path[1:], changed), heads=part.heads())
    parts = part.parts()
    parts[path[0]] = with_part(parts[path[0]], path[1:], changed)
    return with_parts(part, parts)


def with_parts(many, parts):
    return Many(parts, sub=many.sub(), heads=many.heads(), ahead=many.ahead(), behind=many.behind())


def with_heads(part, heads):
    if part.manner() == "leaf":
        return Leaf(part.octets(), kind=part.kind(), code=part.code(), heads=heads)
    if part.manner() == "cover":
        return Cover(part.inner(), heads=heads)
    return Many(part.parts(), sub=part.sub(), heads=heads, ahead=part.ahead(), behind=part.behind())


def with_body(part, path, octets):
    return with_part(part, path, lambda leaf: Leaf(octets, kind=leaf.kind(), code=leaf.code(), heads=leaf.heads()))


def with_head_put(part, name, value):
    heads = part.heads()
    for number, (known, _) in enumerate(heads):
        if known.lower() == name.lower():
            heads[number] = (name, value)
            return with_heads(part, heads)
    return with_heads(part, [*heads, (name, value)])


def with_head_dropped(part, name):
    heads = part.heads()
    del heads[[known.lower() for known, _ in heads].index(name.lower())]
    return with_heads(part, heads)


class ChangingCase(RefusedCase):
    def comes_of(self, text, change, wanted):
        """That a change makes of a letter's text one that is read to a part."""
        self.assertIs(change.__class__, tuple)
        self.assertEqual([thing.__class__ for thing in change], [int, int, str])
        begin, end, put = change
        changed = done(text, change)
        self.assertEqual(changed, text[:begin] + put + text[end:])
        self.assertTrue(is_sound(changed))
        self.assertEqual(read_letter(changed), wanted)


class InterfaceTest(ChangingCase):
    PARAMETERS = {
        done: ["text", "change"], put_head: ["text", "path", "name", "value"], drop_head: ["text", "path", "name"],
        put_body: ["text", "path", "octets"], put_part: ["text", "path", "at", "part"], drop_part: ["text", "path"],
        led: ["change", "place"],
    }

    def test_the_parameters(self):
        for function, names in self.PARAMETERS.items():
            self.assertTrue(inspect.isfunction(function))
            self.assertEqual(list(inspect.signature(function).parameters), names)
            self.assertEqual(function.__module__, changing.__name__)

    def test_by_name(self):
        self.assertEqual(done(change=(0, 1, "b"), text="a"), "b")
        self.assertEqual(put_head(value="b", name="A", path=(), text="\n"), (0, 0, "A: b\n"))
        self.assertEqual(drop_head(name="A", path=(), text="A: b\n\n"), (0, 5, ""))
        self.assertEqual(put_body(octets=[65, 10], path=(), text="\n"), (1, 1, "A\n"))
        self.assertEqual(put_part(part=Leaf([]), at=1, path=(), text=Many([Leaf([])]).text()),
                         (52, 52, "--b0\nKind: text/plain\n\n"))
        self.assertEqual(drop_part(path=(0,), text=Many([Leaf([]), Leaf([])]).text()), (29, 52, ""))
        self.assertEqual(led(place=5, change=(0, 1, "abc")), 7)


class DoneTest(ChangingCase):
    def test_any_text_and_any_change(self):
        for text, change, wanted in [
            ("", (0, 0, ""), ""), ("", (0, 0, "a\n"), "a\n"), ("abc", (0, 3, ""), ""), ("abc", (1, 2, "xyz"), "axyzc"),
            ("abc", (3, 3, "d"), "abcd"), ("abc", (0, 0, "d"), "dabc"), ("a\nb", (1, 2, " "), "a b"),
            ("abc", (2, 3, "\n"), "ab\n"),
            ("no\nletter", (0, 1, "N"), "No\nletter"),
        ]:
            self.assertEqual(done(text, change), wanted)

    def test_no_text(self):
        for value in [*NO_TEXTS, *TORN_TEXTS]:
            with self.subTest(value=ascii(value)):
                self.refused(NoText, done, value, (0, 0, ""))

    def test_no_change(self):
        for value in NO_CHANGES:
            with self.subTest(value=ascii(value)):
                self.refused(NoChange, done, "abcd", value)

    def test_not_within_the_text(self):
        for text, change in [("abc", (0, 4, "")), ("abc", (4, 4, "")), ("", (0, 1, "")), ("abc", (3, 10 ** 20, ""))]:
            self.refused(NoChange, done, text, change)

    def test_which_goes_first(self):
        self.refused(NoText, done, None, None)
        self.refused(NoText, done, "a\t", (1, 0, ""))


class PutHeadTest(ChangingCase):
    def test_behind_the_other_heads(self):
        self.assertEqual(put_head("\n", (), "A", "b"), (0, 0, "A: b\n"))
        self.assertEqual(put_head("\n", (), "A", ""), (0, 0, "A:\n"))
        self.assertEqual(put_head("A: b\n c\n\nd\n", (), "B", "e"), (8, 8, "B: e\n"))
        self.assertEqual(put_head(LEAF, (), "New", "x"), (37, 37, "New: x\n"))
        self.assertEqual(put_head(MANY, (), "C", "x"), (29, 29, "C: x\n"))
        self.assertEqual(put_head(MANY, (1,), "C", "x"), (MANY.index("\n--b0\nA: b\nKind: cover"),) * 2 + ("C: x\n",))

    def test_in_the_place_of_another_one(self):
        self.assertEqual(put_head(LEAF, (), "A", "f"), (0, 5, "A: f\n"))
        self.assertEqual(put_head(LEAF, (), "a", ""), (0, 5, "a:\n"))
        self.assertEqual(put_head(LEAF, (), "c", "f"), (15, 20, "c: f\n"))
        self.assertEqual(put_head("x: y\nSUBJECT:\n a\n  b\nz: a\n\n", (), "Subject", "c"), (5, 21, "Subject: c\n"))
        self.assertEqual(put_head(MANY, (), "A", "x"), (24, 29, "A: x\n"))

    def test_at_parts_within(self):
        at = MANY.index(LEAF)
        self.assertEqual(put_head(MANY, (0,), "A", "x"), (at, at + 5, "A: x\n"))
        at = MANY.index(COVER)
        self.assertEqual(put_head(MANY, (2,), "A", "x"), (at, at + 5, "A: x\n"))
        self.assertEqual(put_head(MANY, (2,), "New", "x"), (at + 28, at + 28, "New: x\n"))
        at = MANY.index(LEAF, at)
        self.assertEqual(put_head(MANY, (2, 0), "c", "x"), (at + 15, at + 20, "c: x\n"))

    def test_a_folded_one(self):
        value = "word " * 50 + "end"
        self.assertEqual(put_head("\n", (), "A", value), (0, 0, fold("A", value)))
        self.comes_of("\n", put_head("\n", (), "A", value), Leaf([], heads=[("A", value)]))

    def test_values_like_borders(self):
        for value in ["--b0", "--b0--", "x  --b0", "-- --b0-- " * 20 + "x"]:
            change = put_head(MANY, (0,), "New", value)
            self.comes_of(MANY, change,
                          with_part(read_letter(MANY), (0,), lambda part: with_head_put(part, "New", value)))

    def test_refused(self):
        self.no_letter(put_head, (), "A", "b")
        for value in NO_PATHS:
            self.refused(NoPath, put_head, MANY.replace("--b0\n\n", ""), value, "A", "b")
        for value in NO_NAMES:
            with self.subTest(name=ascii(value)):
                self.assertEqual(self.refused(NoHead, put_head, MANY, (0,), value, "b").line, 0)
        for value in NO_VALUES:
            with self.subTest(value=ascii(value)):
                self.assertEqual(self.refused(NoHead, put_head, MANY, (), "A", value).line, 0)

    def test_which_goes_first(self):
        self.refused(NoLetter, put_head, "", None, None, None)
        self.refused(NoPath, put_head, MANY, (9,), "Kind", None)
        self.refused(NoPath, put_head, MANY, [], "", "a ")


class DropHeadTest(ChangingCase):
    def test_heads(self):
        self.assertEqual(drop_head(LEAF, (), "A"), (0, 5, ""))
        self.assertEqual(drop_head(LEAF, (), "a"), (0, 5, ""))
        self.assertEqual(drop_head(LEAF, (), "c"), (15, 20, ""))
        self.assertEqual(drop_head("x: y\nSUBJECT:\n a\n  b\nz: a\n\n", (), "Subject"), (5, 21, ""))
        self.assertEqual(drop_head(MANY, (), "A"), (24, 29, ""))
        at = MANY.index(COVER)
        self.assertEqual(drop_head(MANY, (2,), "C"), (at + 23, at + 28, ""))
        at = MANY.index(LEAF, at)
        self.assertEqual(drop_head(MANY, (2, 0), "a"), (at, at + 5, ""))

    def test_one_after_the_other(self):
        text = done(LEAF, drop_head(LEAF, (), "A"))
        self.assertEqual(drop_head(text, (), "A"), (27, 32, ""))
        text = done(text, drop_head(text, (), "A"))
        self.refused(NoHead, drop_head, text, (), "A")

    def test_no_such_head(self):
        for path, name in [((), "B"), ((), "C"), ((1,), "A"), ((0,), "Kin"), ((0,), "z"), ((2,), "Border")]:
            self.assertEqual(self.refused(NoHead, drop_head, MANY, path, name).line, 0)

    def test_refused(self):
        self.no_letter(drop_head, (), "A")
        for value in NO_PATHS:
            self.refused(NoPath, drop_head, MANY.replace("--b0\n\n", ""), value, "A")
        for value in NO_NAMES:
            with self.subTest(name=ascii(value)):
                self.refused(NoHead, drop_head, MANY, (0,), value)

    def test_which_goes_first(self):
        self.refused(NoLetter, drop_head, "x", None, None)
        self.refused(NoPath, drop_head, MANY, (0.0,), None)


class PutBodyTest(ChangingCase):
    def test_each_code(self):
        for code in ["plain", "sixes", "marks"]:
            for heads in ["", "A: b\n", "Kind: x/y\n"]:
                text = heads + "Code: " + code.upper() + "\n\n\n"
                for octets in [[], [65, 10], [61, 10, 10], signs_of("--b0\n--b0--\n")]:
                    begin = len(text) - 1
                    self.assertEqual(put_body(text, (), octets), (begin, begin + 1, written_by(octets, code)))

    def test_octets_that_plain_can_not_write(self):
        for octets in [[65], [200], [9, 10], [65] * 73 + [10]]:
            for text in ["\n", "Code: plain\n\na\n", "\n" + "a" * 80 + "\n"]:
                error = self.refused(NoCode, put_body, text, (), octets)
                self.assertEqual(error.at, 0)
            for code in ["sixes", "marks"]:
                text = f"Code: {code}\n\n"
                self.comes_of(text, put_body(text, (), octets), Leaf(octets, code=code))

    def test_a_body_that_plain_reads_and_can_not_write(self):
        text = "\n" + "a" * 80 + "\n"
        self.comes_of(text, put_body(text, (), [65, 10]), Leaf([65, 10]))

    def test_with_and_without_a_body(self):
        self.assertEqual(put_body("\n", (), []), (1, 1, ""))
        self.assertEqual(put_body("A: b\n\nc\nd\n", (), [65, 10]), (6, 10, "A\n"))
        self.assertEqual(put_body("A: b\n\nc\nd\n", (), []), (6, 10, ""))

    def test_at_parts_within(self):
        at = MANY.index("z\n")
        self.assertEqual(put_body(MANY, (0,), [200]), (at, at + 2, "=C8=\n"))
        at = MANY.index("--b0\n\n--b0\n") + 6
        self.assertEqual(put_body(MANY, (1,), [65, 10]), (at, at, "A\n"))
        at = MANY.rindex("z\n")
        self.assertEqual(put_body(MANY, (2, 0), [200]), (at, at + 2, "=C8=\n"))

    def test_no_path_of_a_leaf(self):
        self.refused(NoPath, put_body, MANY, (), [65, 10])
        self.refused(NoPath, put_body, MANY, (2,), [65, 10])
        self.refused(NoPath, put_body, COVER, (), [65, 10])

    def test_borders_around(self):
        for path in [(0,), (1,), (2, 0)]:
            for line in ["--b0", "--b0--"]:
                for octets in [line + "\n", "a\n" + line + "\n\n", line + "\n" + line + "\n"]:
                    self.refused(NoBorder, put_body, MANY, path, signs_of(octets))
            for line in ["--b0 ", " --b0", "--b0-", "--b0---", "--B0", "--b", "--b1", "--b00", "--", "----"]:
                put_body(MANY, path, signs_of(line + "x\n"))
        for line in ["--b0", "--b0--"]:
            octets = signs_of(line + "\n")
            self.comes_of(COVER, put_body(COVER, (0,), octets), with_body(read_letter(COVER), (0,), octets))

    def test_lines_as_they_are_written(self):
        text = Many([Leaf([65], code="sixes"), Leaf([65], code="marks"), Leaf([])]).text()
        octets = signs_of("--b0\n")
        put_body(text, (0,), octets)
        self.refused(NoBorder, put_body, text, (1,), octets)
        self.refused(NoBorder, put_body, text, (2,), octets)
        # By marks the line has an equals sign at its end.
        self.assertEqual(put_body(text, (1,), octets[:-1])[2], "--b0=\n")
        self.refused(NoBorder, put_body, text, (1,), signs_of("x" * 71 + "--b0\n"))
        self.refused(NoCode, put_body, text, (2,), octets[:-1])

    def test_borders_of_several_manys_around(self):
        inner = "Kind: many/x; border=i\n\n--i\n\n--i\n\n--i--\n"
        text = "Kind: many/x; border=o\n\n--o\nKind: cover/x\n\n" + inner + "--o\n" + inner + "--o\n\n--o--\n"
        for path, borders in [((0, 0, 1), "io"), ((1, 0), "io"), ((2,), "o")]:
            for border in "iox":
                for line in ["--" + border + "\n", "--" + border + "--\n"]:
                    if border in borders:
                        self.refused(NoBorder, put_body, text, path, signs_of(line))
                    else:
                        wanted = with_body(read_letter(text), path, signs_of(line))
                        self.comes_of(text, put_body(text, path, signs_of(line)), wanted)

    def test_refused(self):
        self.no_letter(put_body, (), [])
        for value in NO_PATHS:
            self.refused(NoPath, put_body, MANY.replace("--b0\n\n", ""), value, [])
        for value in NO_OCTETS:
            with self.subTest(value=ascii(value)):
                self.refused(NoOctets, put_body, MANY, (0,), value)

    def test_which_goes_first(self):
        self.refused(NoLetter, put_body, None, None, None)
        self.refused(NoPath, put_body, MANY, (), None)
        self.refused(NoPath, put_body, MANY, (7,), None)
        self.refused(NoOctets, put_body, MANY, (1,), [*signs_of("--b0\n"), 256])
        self.refused(NoCode, put_body, MANY, (1,), [*signs_of("--b0\n"), 200])


class PutPartTest(ChangingCase):
    def test_at_each_place(self):
        part = Cover(Leaf([66, 10]))
        many = read_letter(MANY)
        for at, begin in [(0, MANY.index("--b0\n")), (1, MANY.index("--b0\n\n")),
                          (2, MANY.index("--b0\nA: b\nKind: cover")),
                          (3, MANY.index("--b0--\n"))]:
            change = put_part(MANY, (), at, part)
            self.assertEqual(change, (begin, begin, "--b0\n" + part.text()))
            parts = many.parts()
            parts.insert(at, part)
            self.comes_of(MANY, change, with_parts(many, parts))

    def test_at_parts_within(self):
        inner = "Kind: many/x; border=i\n\n--i\n\n--i--\n"
        text = "Kind: many/x; border=o\n\n--o\nKind: cover/x\n\n" + inner + "--o--\n"
        at = text.index("--i--")
        self.assertEqual(put_part(text, (0, 0), 1, Leaf([])), (at, at, "--i\nKind: text/plain\n\n"))
        at = text.index("--i\n")
        self.assertEqual(put_part(text, (0, 0), 0, Leaf([])), (at, at, "--i\nKind: text/plain\n\n"))
        at = text.index("--o--")
        self.assertEqual(put_part(text, (), 1, Leaf([])), (at, at, "--o\nKind: text/plain\n\n"))

    def test_no_path_of_a_many(self):
        for path in [(0,), (1,), (2,), (2, 0)]:
            self.refused(NoPath, put_part, MANY, path, 0, Leaf([]))
        self.refused(NoPath, put_part, COVER, (), 0, Leaf([]))
        self.refused(NoPath, put_part, LEAF, (), 0, Leaf([]))

    def test_no_place(self):
        for value in [*NO_WHOLES, -1, 4, 5, -4, 10 ** 20, -10 ** 20]:
            with self.subTest(value=ascii(value)):
                self.refused(NoPlace, put_part, MANY, (), value, Leaf([]))

    def test_no_part(self):
        for value in NO_MEMBERS:
            with self.subTest(value=ascii(value)):
                self.refused(NoPart, put_part, MANY, (), 1, value)

    def test_borders_around(self):
        for line in ["--b0", "--b0--"]:
            octets = signs_of(line + "\n")
            for part in [Leaf(octets), Cover(Leaf(octets)), Many([Leaf([])], behind=line + "\n"), Many([Leaf(octets)]),
                         Many([Leaf([])], ahead=line + "\n"), Leaf(octets, code="marks")]:
                for at in [0, 1, 3]:
                    self.refused(NoBorder, put_part, MANY, (), at, part)
            put_part(MANY, (), 0, Leaf(octets, code="sixes"))
        self.refused(NoBorder, put_part, MANY, (), 0, Many([Leaf([])]))
        part = Many([Leaf([])], ahead="--b1\n")
        self.assertEqual(part.border(), "b0")
        self.refused(NoBorder, put_part, MANY, (), 0, part)
        for line in ["--b0 x", " --b0", "--b0-", "--B0", "--b1"]:
            part = Cover(Leaf(signs_of(line + "\n")))
            many = read_letter(MANY)
            self.comes_of(MANY, put_part(MANY, (), 0, part), with_parts(many, [part, *many.parts()]))

    def test_borders_of_several_manys_around(self):
        inner = "Kind: many/x; border=b0\n\n--b0\n\n--b0--\n"
        text = "Kind: many/x; border=b1\n\n--b1\n" + inner + "--b1--\n"
        for line in ["--b0", "--b0--", "--b1", "--b1--"]:
            self.refused(NoBorder, put_part, text, (0,), 1, Leaf(signs_of(line + "\n")))
        for line in ["--b1", "--b1--"]:
            self.refused(NoBorder, put_part, text, (), 0, Leaf(signs_of(line + "\n")))
        for line in ["--b0", "--b0--"]:
            part = Leaf(signs_of(line + "\n"))
            self.comes_of(text, put_part(text, (), 0, part),
                          with_parts(read_letter(text), [part, *read_letter(text).parts()]))
        self.refused(NoBorder, put_part, text, (0,), 1, Many([Many([Leaf([])])]))

    def test_refused(self):
        self.no_letter(put_part, (), 0, Leaf([]))
        for value in NO_PATHS:
            self.refused(NoPath, put_part, MANY.replace("--b0\n\n", ""), value, 0, Leaf([]))

    def test_which_goes_first(self):
        torn = Leaf(signs_of("--b0\n"))
        self.refused(NoLetter, put_part, "x", None, None, None)
        self.refused(NoPath, put_part, MANY, (0,), None, None)
        self.refused(NoPath, put_part, MANY, (5,), -1, torn)
        self.refused(NoPlace, put_part, MANY, (), 4, None)
        self.refused(NoPlace, put_part, MANY, (), True, torn)
        self.refused(NoPart, put_part, MANY, (), 3, [torn])


class DropPartTest(ChangingCase):
    def test_each_place(self):
        many = read_letter(MANY)
        for number, begin, end in [(0, MANY.index("--b0\n"), MANY.index("--b0\n\n")),
                                   (1, MANY.index("--b0\n\n"), MANY.index("--b0\nA: b\nKind: cover")),
                                   (2, MANY.index("--b0\nA: b\nKind: cover"), MANY.index("--b0--"))]:
            change = drop_part(MANY, (number,))
            self.assertEqual(change, (begin, end, ""))
            parts = many.parts()
            del parts[number]
            self.comes_of(MANY, change, with_parts(many, parts))

    def test_at_parts_within(self):
        inner = "Kind: many/x; border=i\n\n--i\n\n--i\n\nA\n--i--\n"
        text = "Kind: many/x; border=o\n\n--o\nKind: cover/x\n\n" + inner + "--o--\n"
        at = text.index("--i\n")
        self.assertEqual(drop_part(text, (0, 0, 0)), (at, at + 5, ""))
        self.assertEqual(drop_part(text, (0, 0, 1)), (at + 5, at + 12, ""))
        self.refused(NoPath, drop_part, text, (0,))
        self.refused(NoPath, drop_part, text, (0, 0))

    def test_what_is_no_part_of_a_many_or_the_only_one(self):
        for text, path in [(MANY, ()), (MANY, (2, 0)), (LEAF, ()), (COVER, ()), (COVER, (0,)),
                           (Many([Leaf([])]).text(), (0,)), (Cover(Many([Leaf([])])).text(), (0,)),
                           (Cover(Many([Leaf([])])).text(), (0, 0))]:
            self.refused(NoPath, drop_part, text, path)

    def test_refused(self):
        self.no_letter(drop_part, (0,))
        for value in NO_PATHS:
            self.refused(NoPath, drop_part, MANY.replace("--b0\n\n", ""), value)
        self.refused(NoLetter, drop_part, None, None)


class LedTest(ChangingCase):
    def test_longer_shorter_and_neither(self):
        for change, places in [
            ((3, 5, "abcd"), [0, 1, 2, 3, 3, 7, 8, 9]), ((3, 5, "a"), [0, 1, 2, 3, 3, 4, 5, 6]),
            ((3, 5, "ab"), [0, 1, 2, 3, 3, 5, 6, 7]), ((3, 6, "ab"), [0, 1, 2, 3, 3, 3, 5, 6]),
            ((3, 5, ""), [0, 1, 2, 3, 3, 3, 4, 5]), ((3, 3, "ab"), [0, 1, 2, 3, 6, 7, 8, 9]),
            ((3, 3, ""), [0, 1, 2, 3, 4, 5, 6, 7]), ((0, 0, "ab"), [0, 3, 4, 5]), ((0, 2, "\n\n\n"), [0, 0, 3, 4]),
            ((0, 2, ""), [0, 0, 0, 1]),
        ]:
            for place, wanted in enumerate(places):
                self.assertEqual(led(change, place), wanted)

    def test_far_places(self):
        self.assertEqual(led((10 ** 12, 10 ** 12 + 5, ""), 10 ** 12 - 1), 10 ** 12 - 1)
        self.assertEqual(led((2, 5, "a"), 10 ** 12), 10 ** 12 - 2)

    def test_no_change(self):
        for value in NO_CHANGES:
            with self.subTest(value=ascii(value)):
                self.refused(NoChange, led, value, 0)
                self.refused(NoChange, led, value, None)

    def test_no_place(self):
        for value in [*NO_WHOLES, -1, -10 ** 12]:
            with self.subTest(value=ascii(value)):
                self.refused(NoPlace, led, (0, 1, "a"), value)

    def test_signs_outside_of_a_change_are_led_to_themselves(self):
        chance = random.Random(29)
        for _ in range(300):
            text = "".join(chance.sample(SIGNS, 30))
            begin, end = sorted(chance.choices(range(31), k=2))
            change = (begin, end, "\n" * chance.randint(0, 9))
            changed = done(text, change)
            for place in range(31):
                if place < begin or place >= end > begin or place > begin == end:
                    self.assertEqual(changed[led(change, place):][:1], text[place:place + 1])


class ByChanceTest(ChangingCase):
    def tried(self, call, text, *args):
        """The change, or None of one that is refused for a border."""
        try:
            return call(text, *args)
        except NoBorder:
            return None

    def test_changes(self):
        chance = random.Random(28)
        refused = 0
        for _ in range(250):
            part = some_part(chance, 4)
            text = part.text()
            path = chance.choice(Look(text).paths())
            one = Look(text).part(path)
            name, value = (some_heads(chance, 1) or [("New", some_value(chance))])[0]
            self.comes_of(text, put_head(text, path, name, value),
                          with_part(part, path, lambda part: with_head_put(part, name, value)))
            for name, _ in one.heads():
                self.comes_of(text, drop_head(text, path, name),
                              with_part(part, path, lambda part: with_head_dropped(part, name)))
            if one.manner() == "leaf":
                refused += self.leaf_changed(chance, part, path)
            if one.manner() == "many":
                refused += self.many_changed(chance, part, path, one)
        self.assertGreater(refused, 10)

    def leaf_changed(self, chance, part, path):
        octets = some_octets(chance)
        try:
            wanted = with_body(part, path, octets)
        except NoPart:
            self.refused(NoCode, put_body, part.text(), path, octets)
            return 0
        change = self.tried(put_body, part.text(), path, octets)
        if change is None:
            return 1
        self.comes_of(part.text(), change, wanted)
        return 0

    def many_changed(self, chance, part, path, many):
        refused = 0
        for at in range(len(many.parts()) + 1):
            one = chance.choice([some_leaf(chance), some_part(chance, 2)])
            parts = many.parts()
            parts.insert(at, one)
            change = self.tried(put_part, part.text(), path, at, one)
            if change is None:
                refused += 1
            else:
                self.comes_of(part.text(), change, with_part(part, path, lambda many: with_parts(many, parts)))
        for number in range(len(many.parts())):
            if len(many.parts()) > 1:
                parts = many.parts()
                del parts[number]
                self.comes_of(part.text(), drop_part(part.text(), (*path, number)),
                              with_part(part, path, lambda many: with_parts(many, parts)))
        return refused

    def test_what_is_refused_for_a_border_would_be_read_otherwise(self):
        chance = random.Random(30)
        known = 0
        for _ in range(400):
            part = some_part(chance, 3)
            text = part.text()
            for path in Look(text).paths():
                one = Look(text).part(path)
                if one.manner() != "leaf" or one.code() == "sixes":
                    continue
                line = chance.choice(["--b0\n", "--b1--\n", "--b2\n", "x\n"])
                octets = signs_of(line)
                change = self.tried(put_body, text, path, octets)
                if change is None:
                    known += 1
                    begin, end = Look(text).body(path)
                    torn = text[:begin] + line + text[end:]
                    self.assertFalse(is_sound(torn) and read_letter(torn) == with_body(part, path, octets))
        self.assertGreater(known, 20)

    def test_nothing_handed_in_is_changed(self):
        octets = [65, 10]
        put_body("\n", (), octets)
        self.assertEqual(octets, [65, 10])
        part = Many([Leaf([65])])
        kept = copy.deepcopy(part)
        put_part(Many([Leaf([])], ahead="--b0\n--b1\n").text(), (), 0, part)
        self.assertEqual(part, kept)


if __name__ == "__main__":
    unittest.main()
