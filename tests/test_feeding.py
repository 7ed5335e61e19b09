import inspect
import random
import unittest

from foldletter import feeding
from foldletter.errors import NoLetter, NoText
from foldletter.feeding import Feed
from foldletter.mending import steps
from foldletter.parts import Leaf, Many

from tests import oracle
from tests.cases import RefusedCase
from tests.makers import some_damage, some_part, some_torn
from tests.samples import NO_TEXTS, TORN_TEXTS

LEAF = "A: b\n  c\nKind: x/y\n\nd \n\n"
LEAF_TOLD = [
    ("begin", ()), ("head", (), "A", "b  c"), ("head", (), "Kind", "x/y"), ("gap", ()), ("line", (), "d "),
    ("line", (), ""),
]


class FeedingCase(RefusedCase):
    def tells(self, text, *wanted):
        """That a letter is told so in one piece and sign by sign."""
        self.assertTrue(oracle.is_sound(text))
        feed = Feed()
        self.assertEqual(feed.take(text), list(wanted))
        self.assertIsNone(feed.finish())
        told = []
        for sign in text:
            told.extend(feed.take(sign))
        self.assertIsNone(feed.finish())
        self.assertEqual(told, list(wanted))


class InterfaceTest(FeedingCase):
    def test_the_class(self):
        self.assertEqual(Feed.__module__, feeding.__name__)
        self.assertEqual(list(inspect.signature(Feed).parameters), [])
        self.assertEqual(list(inspect.signature(vars(Feed)["take"]).parameters), ["self", "text"])
        self.assertEqual(list(inspect.signature(vars(Feed)["finish"]).parameters), ["self"])

    def test_by_name(self):
        feed = Feed()
        self.assertEqual(feed.take(text="\n"), [("begin", ()), ("gap", ())])
        self.refused(NoText, feed.take, text=None)

    def test_kinds_of_what_is_told(self):
        feed = Feed()
        for told in [feed.take(LEAF), feed.take("")]:
            self.assertIs(told.__class__, list)
            for thing in told:
                self.assertIs(thing.__class__, tuple)
                self.assertEqual([one.__class__ for one in thing], [str, tuple, str, str][:len(thing)])

    def test_what_is_told_is_new(self):
        feed = Feed()
        first = feed.take("\na\n")
        kept = list(first)
        second = feed.take("b\n")
        self.assertEqual(first, kept)
        first.clear()
        second.append(None)
        empty = feed.take("")
        empty.append(None)
        self.assertEqual(feed.take("c\n"), [("line", (), "c")])
        self.assertIsNone(feed.finish())

    def test_feeds_of_their_own(self):
        one, two = Feed(), Feed()
        one.take("A: b\n")
        self.assertEqual(two.take("\n"), [("begin", ()), ("gap", ())])
        self.assertEqual(one.take("\n"), [("begin", ()), ("head", (), "A", "b"), ("gap", ())])
        one.take("c")
        self.assertIsNone(two.finish())
        self.refused(NoLetter, one.finish)


class LettersTest(FeedingCase):
    def test_leaves(self):
        self.tells("\n", ("begin", ()), ("gap", ()))
        self.tells("\nA\n", ("begin", ()), ("gap", ()), ("line", (), "A"))
        self.tells(LEAF, *LEAF_TOLD)
        self.tells("code: SIXES\n\n QQ\n==\n", ("begin", ()), ("head", (), "code", "SIXES"), ("gap", ()),
                   ("line", (), " QQ"),
                   ("line", (), "=="))

    def test_heads(self):
        self.tells("A:\nB:   c d  \nC:\n  \n e: f\n\n", ("begin", ()), ("head", (), "A", ""), ("head", (), "B", "c d"),
                   ("head", (), "C", "e: f"), ("gap", ()))

    def test_lines_like_heads_and_borders_in_a_leaf(self):
        self.tells("\nA: b\n\n c\n--b0\n--b0--\n", ("begin", ()), ("gap", ()), ("line", (), "A: b"), ("line", (), ""),
                   ("line", (), " c"), ("line", (), "--b0"), ("line", (), "--b0--"))

    def test_covers(self):
        self.tells("Kind: cover/x\n\n" + LEAF, ("begin", ()), ("head", (), "Kind", "cover/x"), ("gap", ()),
                   ("begin", (0,)),
                   ("head", (0,), "A", "b  c"), ("head", (0,), "Kind", "x/y"), ("gap", (0,)), ("line", (0,), "d "),
                   ("line", (0,), ""))
        self.tells("Kind: cover/x\n\nKind: Cover/y\n\n\n", ("begin", ()), ("head", (), "Kind", "cover/x"), ("gap", ()),
                   ("begin", (0,)), ("head", (0,), "Kind", "Cover/y"), ("gap", (0,)), ("begin", (0, 0)),
                   ("gap", (0, 0)))

    def test_manys(self):
        kind = "many/x; border=b"
        self.tells(
            "Kind: " + kind + "\n\n\n--b--\n--b\n\nA\n--b\nA: b\n\n--b--\n--b\n\n--b--\nend\n",
            ("begin", ()), ("head", (), "Kind", kind), ("gap", ()), ("ahead", (), ""), ("ahead", (), "--b--"),
            ("border", ()),
            ("begin", (0,)), ("gap", (0,)), ("line", (0,), "A"), ("border", ()), ("begin", (1,)),
            ("head", (1,), "A", "b"),
            ("gap", (1,)), ("border", ()), ("behind", (), "--b"), ("behind", (), ""), ("behind", (), "--b--"),
            ("behind", (), "end"),
        )

    def test_manys_within_one_another(self):
        outer, inner = "many/x; border=o", "many/x; border=i"
        self.tells(
            "Kind: " + outer + "\n\n--i\n--o\nKind: cover/x\n\n"
            "Kind: " + inner + "\n\n--i--\n--i\n\n--i\n\na\n--i--\n--i\n--o\n\n--i\n--o--\n--i--\n",
            ("begin", ()), ("head", (), "Kind", outer), ("gap", ()), ("ahead", (), "--i"), ("border", ()),
            ("begin", (0,)), ("head", (0,), "Kind", "cover/x"), ("gap", (0,)), ("begin", (0, 0)),
            ("head", (0, 0), "Kind", inner), ("gap", (0, 0)), ("ahead", (0, 0), "--i--"), ("border", (0, 0)),
            ("begin", (0, 0, 0)), ("gap", (0, 0, 0)), ("border", (0, 0)), ("begin", (0, 0, 1)), ("gap", (0, 0, 1)),
            ("line", (0, 0, 1), "a"), ("border", (0, 0)), ("behind", (0, 0), "--i"), ("border", ()), ("begin", (1,)),
            ("gap", (1,)), ("line", (1,), "--i"), ("border", ()), ("behind", (), "--i--"),
        )

    def test_more_than_ten_parts(self):
        feed = Feed()
        told = feed.take(Many([Leaf([]) for _ in range(13)]).text())
        self.assertEqual([thing[1] for thing in told if thing[0] == "begin"],
                         [(), *[(number,) for number in range(13)]])


class SettledTest(FeedingCase):
    def test_a_line_with_its_line_feed(self):
        feed = Feed()
        self.assertEqual(feed.take("\nab"), [("begin", ()), ("gap", ())])
        self.assertEqual(feed.take("c"), [])
        self.assertEqual(feed.take(""), [])
        self.assertEqual(feed.take("\n"), [("line", (), "abc")])
        self.assertEqual(feed.take("\n\n"), [("line", (), ""), ("line", (), "")])
        self.assertIsNone(feed.finish())

    def test_a_head_with_the_line_behind_it(self):
        feed = Feed()
        self.assertEqual(feed.take("A: b\n"), [])
        self.assertEqual(feed.take(" c\n"), [])
        self.assertEqual(feed.take("B: d"), [])
        self.assertEqual(feed.take("\n"), [("begin", ()), ("head", (), "A", "b c")])
        self.assertEqual(feed.take(" "), [])
        self.assertEqual(feed.take("\n"), [])
        self.assertEqual(feed.take("\n"), [("head", (), "B", "d"), ("gap", ())])

    def test_a_begin_with_the_first_thing_of_the_part(self):
        feed = Feed()
        self.assertEqual(feed.take("Kind: cover/x\n\n")[-1], ("gap", ()))
        self.assertEqual(feed.take("A: b\n"), [])
        self.assertEqual(feed.take("\n"), [("begin", (0,)), ("head", (0,), "A", "b"), ("gap", (0,))])
        self.assertIsNone(feed.finish())
        self.assertEqual(feed.take("Kind: many/x; border=b\n\n--b\n")[-1], ("border", ()))
        self.assertEqual(feed.take("\n"), [("begin", (0,)), ("gap", (0,))])
        self.assertEqual(feed.take("--b-"), [])
        self.assertEqual(feed.take("-\n"), [("border", ())])
        self.assertIsNone(feed.finish())

    def test_pieces_cut_anywhere(self):
        chance = random.Random(32)
        for _ in range(150):
            text = some_part(chance, 4).text()
            told = oracle.told(text)
            feed = Feed()
            for _ in range(2):
                place = 0
                while place < len(text) or chance.random() < 0.3:
                    end = min(len(text), place + chance.choice([0, 0, 1, 1, 2, 7, 40, 300]))
                    wanted = [thing for at, thing in told if place < at <= end]
                    self.assertEqual(feed.take(text[place:end]), wanted)
                    place = end
                self.assertIsNone(feed.finish())

    def test_each_cut_in_two(self):
        text = "A: b\n c\nKind: many/x; border=b\n\na\n--b\n\nd\n--b\nKind: cover/y\n\n\n--b--\ne\n"
        told = [thing for _, thing in oracle.told(text)]
        feed = Feed()
        for cut in range(len(text) + 1):
            self.assertEqual(feed.take(text[:cut]) + feed.take(text[cut:]), told)
            self.assertIsNone(feed.finish())


class FinishTest(FeedingCase):
    def test_nothing_at_all(self):
        feed = Feed()
        self.assertEqual(self.refused(NoLetter, feed.finish).at, 0)
        feed.take("")
        self.assertEqual(self.refused(NoLetter, feed.finish).at, 0)
        self.assertEqual(feed.take(LEAF), LEAF_TOLD)
        self.assertIsNone(feed.finish())
        self.assertEqual(self.refused(NoLetter, feed.finish).at, 0)

    def test_torn_letters(self):
        feed = Feed()
        for text, at in [("x", 0), ("A: b\n", 5), ("A: b\n\nc", 7), ("A: b\nKind:\n\n", 5), ("A: b\n\n--b\nx", 11),
                         ("\nA", 2),
                         ("Kind: many/x; border=b\n\n--b\n\n", 29), ("Kind: many/x\n\n--b\n\n--b--\n", 0),
                         ("Code: sixes\n\nx\n", 0),
                         ("Kind: many/x; border=b\n\nx\n", 0), ("Kind: cover/x\n\nx\n", 15)]:
            for pieces in [[text], list(text)]:
                for piece in pieces:
                    feed.take(piece)
                self.assertEqual(self.refused(NoLetter, feed.finish).at, at)

    def test_new_again_behind_both(self):
        feed = Feed()
        for text in ["A: b\n\nc\n", "A: b\n\nc", "x\ny\n", "A: b", "Kind: many/x; border=b\n\n--b\n",
                     "Kind: cover/x\n\n", "Kind:\n\n"]:
            feed.take(text)
            try:
                feed.finish()
            except NoLetter:
                pass
            self.assertEqual(feed.take(LEAF), LEAF_TOLD)
            self.assertIsNone(feed.finish())

    def test_torn_texts_by_chance(self):
        chance = random.Random(33)
        feed = Feed()
        torn = 0
        for number in range(1000):
            text = some_torn(chance) if number % 2 else some_damage(chance, some_part(chance, 3).text())
            cut = chance.randint(0, len(text))
            self.assertIs(feed.take(text[:cut]).__class__, list)
            self.assertIs(feed.take(text[cut:]).__class__, list)
            if oracle.is_sound(text):
                self.assertIsNone(feed.finish())
            else:
                torn += 1
                self.assertEqual(self.refused(NoLetter, feed.finish).at, steps(text)[0][1])
        self.assertGreater(torn, 300)


class NoTextTest(FeedingCase):
    def test_no_text(self):
        feed = Feed()
        for value in [*NO_TEXTS, *TORN_TEXTS, ["\n"], b"\n"]:
            with self.subTest(value=ascii(value)):
                self.refused(NoText, feed.take, value)

    def test_it_changes_nothing(self):
        feed = Feed()
        told = []
        for sign in LEAF:
            for value in [None, "\t", "\n\n\x00", ["\n"], 7]:
                self.refused(NoText, feed.take, value)
            told.extend(feed.take(sign))
        self.refused(NoText, feed.take, None)
        self.assertEqual(told, LEAF_TOLD)
        self.assertIsNone(feed.finish())


if __name__ == "__main__":
    unittest.main()
