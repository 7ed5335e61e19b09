"""What points [1] and [2] say over the whole program."""

import copy
import itertools
import random
import unittest

from foldletter import errors
from foldletter.addresses import read_addresses, show_addresses
from foldletter.changing import done, drop_head, drop_part, led, put_body, put_head, put_part
from foldletter.codes import best, read_by, written_by
from foldletter.dates import read_date, show_date
from foldletter.feeding import Feed
from foldletter.heads import fold, read_heads
from foldletter.kinds import read_kind, show_kind
from foldletter.letters import is_sound, read_letter
from foldletter.looking import Look
from foldletter.mending import mended, steps
from foldletter.parts import Cover, Leaf, Many
from foldletter.sayings import coded, decoded, octets_of, saying_of
from foldletter.sealing import form, holds, seal, sum_by
from foldletter.words import quoted, words

from tests import oracle
from tests.makers import some_heads, some_octets, some_part
from tests.samples import NO_LISTS, NO_OCTETS, NO_TEXTS, NO_WHOLES, SIGNS, TORN_TEXTS, signs_of
from tests.test_changing import NO_CHANGES, NO_NAMES, NO_VALUES, with_head_dropped, with_head_put
from tests.test_kinds import NO_KINDS, NO_SORTS
from tests.test_looking import NO_PATHS
from tests.test_parts import NO_HEAD_LISTS, NO_LINES, NO_MEMBERS
from tests.test_sealing import NO_KEYS
from tests.test_sealing import NO_NAMES as NO_NAME_LISTS

MANY = "A: b\nKind: many/x; border=b0\n\n--b0\nKind: cover/x\n\n\n--b0\nA: b\n\n--b0--\n"
NO_LINE_TEXTS = [*NO_TEXTS, *TORN_TEXTS, "\n", "a\n", "a\nb"]
ALL_TEXTS = [*NO_TEXTS, *TORN_TEXTS]
NO_CODES = [*NO_TEXTS, "", "Plain", "six", ["plain"], ("plain",), "plain\n"]
NO_SAYINGS = [*NO_LISTS, (65,), [31], [65536], [65, True], [65.0], [[65]], [None]]
NO_PARTS_LISTS = [*NO_LISTS, [], *[[value] for value in NO_MEMBERS], [Leaf([]), None]]
LATE_PATHS = [value for value in NO_PATHS if value not in [(2, 0), (1, 1), (0, 0)]]

# Each function and class with its parameters, in the order in which they are
# refused: name, a good value, bad ones, and their refusal (its field is 0).
CALLS = [
    (fold, [("name", "A", NO_NAMES[:-6], "NoHead"), ("value", "b", NO_VALUES, "NoHead")]),
    (read_heads,
     [("lines", ["A: b"], [*NO_LISTS, ("A: b",), ["A: b", None], ["A: b\n"], ["a\t: b"], ["x"]], "NoHead")]),
    (words, [("text", "a", NO_LINE_TEXTS, "NoWords")]),
    (quoted, [("text", "a", NO_LINE_TEXTS, "NoWords")]),
    (octets_of, [("saying", [65], NO_SAYINGS, "NoSaying")]),
    (saying_of, [("octets", [65], NO_OCTETS, "NoOctets")]),
    (coded, [("saying", [65], NO_SAYINGS, "NoSaying")]),
    (decoded, [("value", "a", NO_LINE_TEXTS, "NoText")]),
    (show_addresses, [("addresses", [], [*NO_LISTS, [None], [("one", [], "", "b")]], "NoAddress")]),
    (read_addresses, [("value", "a@b", NO_LINE_TEXTS, "NoAddress")]),
    (show_date, [("moment", 0, NO_WHOLES, "NoDate"), ("offset", 0, [*NO_WHOLES, 1440, -1440], "NoDate")]),
    (read_date, [("text", "1 Jan 2000 00:00 UT", [*NO_LINE_TEXTS, "", "1 Jan 2000"], "NoDate")]),
    (show_kind, [("kind", ("a", "b", []), NO_KINDS, "NoKind")]),
    (read_kind, [("value", "a/b", NO_LINE_TEXTS, "NoKind")]),
    (written_by, [("octets", [65], NO_OCTETS, "NoOctets"), ("code", "sixes", [*NO_CODES, "plain"], "NoCode")]),
    (read_by, [("text", "A\n", ALL_TEXTS, "NoCode"), ("code", "plain", NO_CODES, "NoCode")]),
    (best, [("octets", [65], NO_OCTETS, "NoOctets")]),
    (Leaf, [
        ("octets", [65], NO_OCTETS, "NoPart"),
        ("kind", None, [kind for kind in NO_KINDS if kind is not None], "NoPart"),
        ("code", "sixes", [*[code for code in NO_CODES if code is not None], "plain"], "NoPart"),
        ("heads", [("A", "b")], NO_HEAD_LISTS, "NoPart"),
    ]),
    (Many, [
        ("parts", [Leaf([])], NO_PARTS_LISTS, "NoPart"), ("sub", "a", NO_SORTS, "NoPart"),
        ("heads", [], NO_HEAD_LISTS, "NoPart"),
        ("ahead", "a\n", NO_LINES, "NoPart"), ("behind", "b\n", NO_LINES, "NoPart"),
    ]),
    (Cover, [("inner", Leaf([]), NO_MEMBERS, "NoPart"), ("heads", [], NO_HEAD_LISTS, "NoPart")]),
    (read_letter, [("text", "\n", [*ALL_TEXTS, "", "x\n"], "NoLetter")]),
    (Look, [("text", "\n", [*ALL_TEXTS, "", "x\n"], "NoLetter")]),
    (Look(MANY).part, [("path", (), LATE_PATHS, "NoPath")]),
    (Look(MANY).whole, [("path", (0,), LATE_PATHS, "NoPath")]),
    (Look(MANY).body, [("path", (0, 0), LATE_PATHS, "NoPath")]),
    (Look(MANY).heads_at, [("path", (1,), LATE_PATHS, "NoPath")]),
    (Look(MANY).belongs, [("place", 0, [*NO_WHOLES, -1, len(MANY)], "NoPlace")]),
    (steps, [("text", "\n", ALL_TEXTS, "NoText")]),
    (mended, [("text", "\n", ALL_TEXTS, "NoText")]),
    (done, [("text", "abc", ALL_TEXTS, "NoText"), ("change", (0, 1, ""), [*NO_CHANGES, (0, 1000, "")], "NoChange")]),
    (put_head, [
        ("text", MANY, [*ALL_TEXTS, "", "x\n"], "NoLetter"), ("path", (0,), LATE_PATHS, "NoPath"),
        ("name", "A", NO_NAMES, "NoHead"), ("value", "b", NO_VALUES, "NoHead"),
    ]),
    (drop_head, [
        ("text", MANY, [*ALL_TEXTS, "", "x\n"], "NoLetter"), ("path", (1,), LATE_PATHS, "NoPath"),
        ("name", "a", [*NO_NAMES, "B"], "NoHead"),
    ]),
    (put_body, [
        ("text", MANY, [*ALL_TEXTS, "", "x\n"], "NoLetter"), ("path", (1,), [*LATE_PATHS, (), (0,)], "NoPath"),
        ("octets", [65, 10], NO_OCTETS, "NoOctets"),
    ]),
    (put_body, [
        ("text", MANY, [*ALL_TEXTS, "", "x\n"], "NoLetter"), ("path", (0, 0), [*LATE_PATHS, (), (0,)], "NoPath"),
        ("octets", [65, 10], [[65], [200], [9, 10], [*signs_of("--b0\n"), 65]], "NoCode"),
    ]),
    (put_body, [
        ("text", MANY, [*ALL_TEXTS, "", "x\n"], "NoLetter"), ("path", (0, 0), [*LATE_PATHS, (), (0,)], "NoPath"),
        ("octets", [65, 10], [signs_of("--b0\n"), signs_of("\n--b0--\n")], "NoBorder"),
    ]),
    (put_part, [
        ("text", MANY, [*ALL_TEXTS, "", "x\n"], "NoLetter"), ("path", (), [*LATE_PATHS, (0,), (1,), (0, 0)], "NoPath"),
        ("at", 2, [*NO_WHOLES, -1, 3], "NoPlace"), ("part", Leaf([]), NO_MEMBERS, "NoPart"),
    ]),
    (put_part, [
        ("text", MANY, [*ALL_TEXTS, "", "x\n"], "NoLetter"), ("path", (), [*LATE_PATHS, (0,), (1,), (0, 0)], "NoPath"),
        ("at", 0, [*NO_WHOLES, -1, 3], "NoPlace"),
        ("part", Leaf([]), [Many([Leaf([])]), Leaf(signs_of("--b0--\n"))], "NoBorder"),
    ]),
    (drop_part, [
        ("text", MANY, [*ALL_TEXTS, "", "x\n"], "NoLetter"), ("path", (1,), [*LATE_PATHS, (), (0, 0)], "NoPath"),
    ]),
    (led, [("change", (0, 1, ""), NO_CHANGES, "NoChange"), ("place", 0, [*NO_WHOLES, -1], "NoPlace")]),
    (form, [("text", MANY, [*ALL_TEXTS, "", "x\n"], "NoLetter"), ("names", ["A"], NO_NAME_LISTS, "NoSeal")]),
    (sum_by, [
        ("text", MANY, [*ALL_TEXTS, "", "x\n"], "NoLetter"), ("names", ["A"], NO_NAME_LISTS, "NoSeal"),
        ("key", 0, NO_KEYS, "NoSeal"),
    ]),
    (seal, [
        ("text", MANY, [*ALL_TEXTS, "", "x\n"], "NoLetter"), ("names", ["A"], NO_NAME_LISTS, "NoSeal"),
        ("key", 0, NO_KEYS, "NoSeal"),
    ]),
    (holds, [("text", "Seal: ;11\n\n", [*ALL_TEXTS, "", "x\n"], "NoLetter"), ("key", 0, NO_KEYS, "NoSeal")]),
    (Feed().take, [("text", "A", ALL_TEXTS, "NoText")]),
]
FIELDS = {"NoHead": "line",
          **{name: "at" for name in ["NoWords", "NoSaying", "NoAddress", "NoKind", "NoCode", "NoLetter"]}}
BY_NAME_ALONE = (Leaf, Many, Cover)


class WholeCase(unittest.TestCase):
    def refused(self, refusal, call, /, *args, **more):
        with self.assertRaises(errors.LetterError) as caught:
            call(*args, **more)
        self.assertIs(caught.exception.__class__, getattr(errors, refusal))
        fields = {FIELDS[refusal]: 0} if refusal in FIELDS else {}
        self.assertEqual(vars(caught.exception), fields)
        self.assertNotEqual(str(caught.exception), "")


class OrderTest(WholeCase):
    def handed(self, call, values):
        """The arguments, by their places as far as may be."""
        if call in BY_NAME_ALONE:
            first, *others = values
            return [values[first]], {name: values[name] for name in others}
        return list(values.values()), {}

    def test_good_values_alone(self):
        for call, parameters in CALLS:
            values = {name: good for name, good, _, _ in parameters}
            args, more = self.handed(call, values)
            call(*args, **more)
            call(**dict(reversed(values.items())))

    def test_each_bad_value_alone(self):
        for call, parameters in CALLS:
            for number, (name, _, bad, refusal) in enumerate(parameters):
                for value in bad:
                    values = {name: good for name, good, _, _ in parameters}
                    values[name] = value
                    args, more = self.handed(call, values)
                    with self.subTest(call=call, name=name, value=ascii(value)):
                        self.refused(refusal, call, *args, **more)

    def test_several_bad_values(self):
        chance = random.Random(2)
        for call, parameters in CALLS:
            for mask in itertools.product([False, True], repeat=len(parameters)):
                if sum(mask) < 2:
                    continue
                for _ in range(12):
                    values = {}
                    for (name, good, bad, _), is_bad in zip(parameters, mask):
                        values[name] = chance.choice(bad) if is_bad else good
                    refusal = parameters[mask.index(True)][3]
                    args, more = self.handed(call, values)
                    shuffled = dict(chance.sample(list(values.items()), len(values)))
                    with self.subTest(call=call, values=ascii(values)):
                        self.refused(refusal, call, *args, **more)
                        self.refused(refusal, call, **shuffled)

    def test_is_sound_refuses_nothing(self):
        for value in [*ALL_TEXTS, "", "x\n", *NO_LISTS, *NO_WHOLES, *NO_PATHS, Leaf([])]:
            if value != "\n":
                self.assertIs(is_sound(value), False)

    def test_the_end_of_a_feed(self):
        self.refused("NoLetter", Feed().finish)
        feed = Feed()
        for value in ALL_TEXTS:
            self.refused("NoText", feed.take, value)
        feed.take("\n")
        feed.finish()


class TextsTest(WholeCase):
    def test_the_signs_of_a_text(self):
        for number in range(400):
            sign = chr(number)
            known = sign in SIGNS or sign == "\n"
            body = "\na" + sign + "b\n"
            self.assertIs(is_sound(body), known)
            if known:
                self.assertEqual(read_letter(body).octets(), signs_of(body[1:]))
                self.assertEqual(mended(sign + "x"), oracle.steps_and_mended(sign + "x")[1])
                self.assertEqual(done("", (0, 0, sign)), sign)
                Many([Leaf([])], ahead=sign + "\n", behind=sign + "\n")
                Feed().take(sign)
            else:
                self.refused("NoLetter", read_letter, body)
                self.refused("NoText", steps, sign)
                self.refused("NoText", mended, sign)
                self.refused("NoChange", done, "", (0, 0, sign))
                self.refused("NoText", done, sign, (0, 0, ""))
                self.refused("NoPart", Many, [Leaf([])], ahead=sign + "\n")
                self.refused("NoPart", Many, [Leaf([])], behind=sign + "\n")
                self.refused("NoText", Feed().take, sign)
                self.refused("NoKind", read_kind, "a/b" + sign)


class NothingIsChangedTest(WholeCase):
    def test_what_is_handed_in(self):
        for call, parameters in CALLS:
            values = {name: good for name, good, _, _ in parameters}
            kept = copy.deepcopy(values)
            call(**values)
            self.assertEqual(values, kept)

    def test_what_is_refused_and_handed_in(self):
        for call, parameters in CALLS:
            for name, _, bad, refusal in parameters:
                for value in bad:
                    if isinstance(value, (list, dict)) and value not in [[()], [{}]]:
                        values = {name: good for name, good, _, _ in parameters}
                        values[name] = value
                        shown = ascii(value)
                        self.refused(refusal, call, **values)
                        self.assertEqual(ascii(value), shown)

    def test_lists_told_are_new(self):
        for call, parameters in CALLS:
            values = {name: good for name, good, _, _ in parameters}
            told = call(**values)
            if isinstance(told, list):
                kept = copy.deepcopy(told)
                told.append(None)
                self.assertEqual(call(**values), kept if call.__name__ != "take" else [])


def deep_part(chance, depth, heads=2):
    """A letter of so many parts, each within the other."""
    part = Leaf(some_octets(chance), heads=some_heads(chance, heads))
    for number in range(depth - 1):
        if number % 2:
            part = Cover(part, heads=some_heads(chance, heads))
        else:
            part = Many([part], ahead="--b0\nx\n", behind="--b1--\n", heads=some_heads(chance, heads))
    return part


class LargestSizesTest(WholeCase):
    def tried(self, part):
        """All that is promised of a letter, at its largest."""
        text = part.text()
        self.assertEqual(read_letter(text), part)
        self.assertEqual(read_letter(text).text(), text)
        self.assertTrue(is_sound(text))
        self.assertEqual(steps(text), [])
        self.assertEqual(mended(text), text)
        look = Look(text)
        owned = oracle.owned(text)
        self.assertEqual([look.belongs(begin) for begin, _, _ in owned], [owner for _, _, owner in owned])
        self.assertEqual([look.belongs(end - 1) for _, end, _ in owned], [owner for _, _, owner in owned])
        told = [thing for _, thing in oracle.told(text)]
        feed = Feed()
        self.assertEqual(feed.take(text), told)
        feed.finish()
        self.assertEqual([thing for sign in text for thing in feed.take(sign)], told)
        feed.finish()
        sealed = done(text, seal(text, ["Subject", "From"], 5))
        self.assertTrue(holds(sealed, 5))
        last = look.paths()[-1]
        self.assertEqual(read_letter(text[slice(*look.whole(last))]), look.part(last))
        change = put_head(text, last, "New", "x")
        self.assertEqual(led(change, len(text)), len(text) + 7)
        self.assertEqual(Look(done(text, change)).part(last).heads()[-1], ("New", "x"))

    def test_twelve_letters_within_one_another(self):
        chance = random.Random(12)
        for heads in [0, 2, 6]:
            self.tried(deep_part(chance, 12, heads))
        manys = Leaf([65, 10])
        for _ in range(11):
            manys = Many([manys], ahead="x\n", behind="y\n")
        self.tried(manys)
        covers = Leaf([65, 10])
        for _ in range(11):
            covers = Cover(covers)
        self.tried(covers)

    def test_thirty_parts(self):
        chance = random.Random(13)
        leaves = [Leaf([chance.randrange(256) for _ in range(300)], heads=some_heads(chance, 2)) for _ in range(29)]
        self.tried(Many(leaves))
        self.tried(Many([Many(leaves[:8]), Cover(Many(leaves[8:16])), *leaves[16:26]]))

    def test_twenty_four_heads(self):
        heads = [(f"X-{number}", "word " * 300 + "end") for number in range(24)]
        part = Leaf([chance for chance in range(256)], heads=heads)
        self.tried(part)
        self.tried(Cover(Many([part], heads=heads[:6]), heads=heads[:6]))

    def test_sixty_thousand_signs(self):
        for line in ["a", "a" * 71, "", " ", "word " * 10, "A: b", "--b0", "=41", "a" * 2999]:
            text = "A: b\n\n" + (line + "\n") * (59990 // (len(line) + 1))
            self.assertTrue(is_sound(text))
            part = read_letter(text)
            self.assertEqual(part.octets(), signs_of(text[6:]))
            self.assertEqual(read_letter(part.text()), part)
            self.assertEqual(Look(text).belongs(len(text) - 1), ("leaf", ()))
            self.assertTrue(holds(done(text, seal(text, ["A"], 9)), 9))
            self.assertEqual(put_head(text, (), "A", "c"), (0, 5, "A: c\n"))
        for code, unit in [("sixes", "QUJD"), ("marks", "=41=\n"), ("marks", "a  b ")]:
            text = "Code: " + code + "\n\n" + unit * (59900 // len(unit)) + "\n"
            part = read_letter(text)
            self.assertEqual(part.octets(), read_by(text[13:], code))
            self.assertEqual(read_letter(part.text()), part)
            change = put_body(text, (), part.octets())
            self.assertEqual(read_letter(done(text, change)), part)

    def test_heads_of_sixty_thousand_signs(self):
        for value in ["word " * 11990 + "end", "a" * 59990, "a" + " " * 59980 + "b", "a b" * 19990]:
            text = fold("A", value) + "\n"
            self.assertEqual(read_letter(text), Leaf([], heads=[("A", value)]))
            self.assertEqual(steps(text[:-1]), [("gap", len(text) - 1)])
            feed = Feed()
            self.assertEqual([thing for sign in text for thing in feed.take(sign)],
                             [("begin", ()), ("head", (), "A", value), ("gap", ())])
            feed.finish()
        kind = ("a", "b", [("n", "v " * 20000)])
        text = Leaf([], kind=kind).text()
        self.assertEqual(read_letter(text).kind(), kind)

    def test_torn_texts_of_sixty_parts(self):
        many = "Kind: many/x; border=b0\n\n" + "--b0\nA: b\nx\n" * 60
        for text in [many, many[:-1], many.replace("A: b", "Kind:"), "Kind: many/x; border=b0\n\n" + "--b0\n" * 60]:
            told, wanted = oracle.steps_and_mended(text)
            self.assertEqual((steps(text), mended(text)), (told, wanted))
            self.assertEqual(len(Look(wanted).paths()), 61)
        covers = "Kind: cover/x\n" * 60
        manys = "".join(f"Kind: many/x; border=b{number}\n--b{number}\n" for number in range(60))
        for text in [covers, manys, "Kind: cover/x\n\n" * 60, covers[:-1], manys[:-1]]:
            told, wanted = oracle.steps_and_mended(text)
            self.assertEqual((steps(text), mended(text)), (told, wanted))
            self.assertTrue(is_sound(wanted))
            self.assertEqual(read_letter(read_letter(wanted).text()), read_letter(wanted))
        self.assertEqual(steps(manys)[-60:], [("close", len(manys))] * 60)

    def test_torn_texts_of_sixty_thousand_signs(self):
        for line in ["A: b\n", "x\n", "Kind:\n", " \n", "--b0\n", "A" * 29999 + "\n", "Code: x\n y\n", ":"]:
            text = line * (59990 // len(line))
            told, wanted = oracle.steps_and_mended(text)
            self.assertEqual((steps(text), mended(text)), (told, wanted))
            self.assertTrue(is_sound(wanted))

    def test_what_was_told_may_be_handed_in_again(self):
        text = "\n" + "a" * 59990 + "\n"
        part = read_letter(text)
        whole = Many([part, Cover(part)], ahead=text[1:], behind=text[1:])
        self.assertEqual(read_letter(whole.text()), whole)
        change = put_part(whole.text(), (), 1, whole.parts()[1])
        wanted = Many([part, Cover(part), Cover(part)], ahead=text[1:], behind=text[1:])
        self.assertEqual(read_letter(done(whole.text(), change)), wanted)
        octets = octets_of(decoded("=?m?" + "A" * 20000 + "?="))
        self.assertEqual(saying_of(octets), octets)
        self.assertEqual(Leaf(octets).octets(), octets)


class OneToldThingTest(WholeCase):
    def test_a_letter_from_all_sides(self):
        chance = random.Random(1)
        for _ in range(60):
            part = some_part(chance, 4)
            text = part.text()
            change = seal(text, ["subject"], 99)
            sealed = done(text, change)
            self.assertTrue(holds(sealed, 99))
            for place in range(change[1], len(text)):
                self.assertEqual(sealed[led(change, place + 1) - 1], text[place])
            whole = read_letter(sealed)
            self.assertEqual(whole, with_head_put(part, "Seal", change[2][6:-1]))
            self.assertEqual(read_letter(done(sealed, drop_head(sealed, (), "Seal"))), with_head_dropped(whole, "Seal"))
            torn = "x\n" + sealed + "\nx"
            self.assertEqual(steps(torn), [("gap", 0), ("feed", len(torn))])
            self.assertEqual(read_letter(mended(torn)).octets(), signs_of(torn + "\n"))
            feed = Feed()
            told = feed.take(sealed)
            feed.finish()
            for path in Look(sealed).paths():
                heads = [thing[2:] for thing in told if thing[0] == "head" and thing[1] == path]
                own = [(name, value) for name, value in heads if name.lower() not in ("kind", "code")]
                self.assertEqual(own, Look(sealed).part(path).heads())


if __name__ == "__main__":
    unittest.main()
