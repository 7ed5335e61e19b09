import inspect
import random
import unittest

from foldletter import looking
from foldletter.errors import NoLetter, NoPath, NoPlace
from foldletter.letters import read_letter
from foldletter.looking import Look
from foldletter.mending import steps
from foldletter.parts import Cover, Leaf, Many

from tests import oracle
from tests.cases import RefusedCase
from tests.makers import some_damage, some_part
from tests.samples import NO_WHOLES

LEAF = "A: b\n c\nKind: text/plain\n\nx\ny\n"
COVER = "Kind: cover/whole\nA: d\n\n" + LEAF
MANY = "B: e\nkind: many/x; border=b0\n\na\n\n--b0\n" + LEAF + "--b0\n" + COVER + "--b0\n\n--b0--\n\n--b0\n"

# What is no path of any letter.
NO_PATHS = [
    *[value for value in NO_WHOLES if not isinstance(value, tuple)], 0, 1, -1, [0], [0, 0], "()", (None,), (True,),
    (False,), (0.0,), (1.0,), ("0",), ([],), ((),), ((0,),), (0, None), (1, True), (1, False), (1, 0.0), (1, [0]),
    (1, (0,)), (1, "0"), ({},), ({0},), (b"0",), (-1,), (1, -1), (-2, 0), (3,), (4,), (0, 0), (1, 1), (1, 0, 0), (2, 0),
    (10 ** 30,), (0,) * 1000, ((((),),),), (0j,),
]
NO_PLACES = [*NO_WHOLES, -1, -2, 10 ** 30, -10 ** 30]


class InterfaceTest(RefusedCase):
    METHODS = {"paths": [], "part": ["path"], "whole": ["path"], "body": ["path"], "heads_at": ["path"],
               "belongs": ["place"]}

    def test_the_class(self):
        self.assertEqual(Look.__module__, looking.__name__)
        self.assertEqual(list(inspect.signature(Look).parameters), ["text"])
        for name, parameters in self.METHODS.items():
            self.assertEqual(list(inspect.signature(vars(Look)[name]).parameters), ["self", *parameters])

    def test_by_name(self):
        look = Look(text=MANY)
        self.assertEqual(look.part(path=(0,)), read_letter(LEAF))
        self.assertEqual(look.whole(path=(0,)), (38, 38 + len(LEAF)))
        self.assertEqual(look.body(path=()), (30, len(MANY)))
        self.assertEqual(look.heads_at(path=()), [(0, 5), (5, 29)])
        self.assertEqual(look.belongs(place=0), ("head", (), 0))
        for call in [look.part, look.whole, look.body, look.heads_at]:
            self.refused(NoPath, call, path=None)
        self.refused(NoPlace, look.belongs, place=None)
        self.assertEqual(self.refused(NoLetter, Look, text="x\n").at, 0)

    def test_kinds_of_what_is_told(self):
        look = Look(MANY)
        self.assertIs(look.paths().__class__, list)
        for path in look.paths():
            self.assertIs(path.__class__, tuple)
            for stretch in [look.whole(path), look.body(path), *look.heads_at(path)]:
                self.assertIs(stretch.__class__, tuple)
                self.assertEqual([place.__class__ for place in stretch], [int, int])
            self.assertIs(look.heads_at(path).__class__, list)
        for place in range(len(MANY)):
            self.assertIs(look.belongs(place).__class__, tuple)

    def test_what_is_told_is_new(self):
        look = Look(MANY)
        look.paths().clear()
        look.heads_at(()).clear()
        look.part(()).parts().clear()
        self.assertEqual(look.paths(), [(), (0,), (1,), (1, 0), (2,)])
        self.assertEqual(look.heads_at(()), [(0, 5), (5, 29)])
        self.assertEqual(look.part(()), read_letter(MANY))


class LeafTest(RefusedCase):
    def test_without_heads_and_body(self):
        look = Look("\n")
        self.assertEqual(look.paths(), [()])
        self.assertEqual(look.part(()), Leaf([]))
        self.assertEqual((look.whole(()), look.body(()), look.heads_at(())), ((0, 1), (1, 1), []))
        self.assertEqual(look.belongs(0), ("gap", ()))
        self.refused(NoPlace, look.belongs, 1)

    def test_heads_and_body(self):
        look = Look(LEAF)
        self.assertEqual(look.paths(), [()])
        self.assertEqual(look.part(()), Leaf([120, 10, 121, 10], heads=[("A", "b c")]))
        self.assertEqual(look.whole(()), (0, len(LEAF)))
        self.assertEqual(look.heads_at(()), [(0, 8), (8, 25)])
        self.assertEqual(look.body(()), (26, 30))
        wanted = [("head", (), 0)] * 8 + [("head", (), 1)] * 17 + [("gap", ())] + [("leaf", ())] * 4
        self.assertEqual([look.belongs(place) for place in range(30)], wanted)

    def test_kind_and_code_are_counted_among_the_heads(self):
        look = Look("Code: sixes\nA: b\nkind:\n a/b\n\nQQ==\n")
        self.assertEqual(look.heads_at(()), [(0, 12), (12, 17), (17, 28)])
        self.assertEqual(look.belongs(27), ("head", (), 2))
        self.assertEqual(look.belongs(28), ("gap", ()))


class ManyTest(RefusedCase):
    def test_paths_in_their_order(self):
        self.assertEqual(Look(MANY).paths(), [(), (0,), (1,), (1, 0), (2,)])
        self.assertEqual(Look(COVER).paths(), [(), (0,)])
        deep = Many([Cover(Many([Leaf([]), Cover(Cover(Leaf([])))])), Leaf([]), Many([Leaf([])])])
        self.assertEqual(Look(deep.text()).paths(),
                         [(), (0,), (0, 0), (0, 0, 0), (0, 0, 1), (0, 0, 1, 0), (0, 0, 1, 0, 0), (1,), (2,), (2, 0)])

    def test_more_than_ten_parts(self):
        many = Many([Leaf([]) for _ in range(13)])
        self.assertEqual(Look(many.text()).paths(), [(), *[(number,) for number in range(13)]])

    def test_the_part_of_each_path(self):
        look = Look(MANY)
        leaf = read_letter(LEAF)
        cover = Cover(leaf, heads=[("A", "d")])
        parts = [Many([leaf, cover, Leaf([])], sub="x", heads=[("B", "e")], ahead="a\n\n", behind="\n--b0\n"), leaf,
                 cover,
                 leaf, Leaf([])]
        self.assertEqual([look.part(path) for path in look.paths()], parts)

    def test_stretches(self):
        look = Look(MANY)
        one = MANY.index("--b0\n") + 5
        two = one + len(LEAF) + 5
        three = two + len(COVER) + 5
        self.assertEqual([look.whole(path) for path in look.paths()],
                         [(0, len(MANY)), (one, two - 5), (two, three - 5), (three - 5 - len(LEAF), three - 5),
                          (three, three + 1)])
        self.assertEqual([look.body(path) for path in look.paths()],
                         [(30, len(MANY)), (one + 26, two - 5), (two + 24, three - 5), (three - 9, three - 5),
                          (three + 1, three + 1)])
        self.assertEqual(look.heads_at((2,)), [])
        self.assertEqual(look.heads_at((1,)), [(two, two + 18), (two + 18, two + 23)])

    def test_what_each_sign_belongs_to(self):
        look = Look(MANY)
        row = [
            (5, ("head", (), 0)), (24, ("head", (), 1)), (1, ("gap", ())), (3, ("ahead", ())), (5, ("border", ())),
            (8, ("head", (0,), 0)), (17, ("head", (0,), 1)), (1, ("gap", (0,))), (4, ("leaf", (0,))),
            (5, ("border", ())),
            (18, ("head", (1,), 0)), (5, ("head", (1,), 1)), (1, ("gap", (1,))),
            (8, ("head", (1, 0), 0)), (17, ("head", (1, 0), 1)), (1, ("gap", (1, 0))), (4, ("leaf", (1, 0))),
            (5, ("border", ())), (1, ("gap", (2,))), (7, ("border", ())), (6, ("behind", ())),
        ]
        wanted = [owner for many, owner in row for _ in range(many)]
        self.assertEqual([look.belongs(place) for place in range(len(MANY))], wanted)

    def test_borders_within_one_another(self):
        text = "Kind: many/x; border=o\n\n--o\nKind: many/x; border=i\n\n--i\n\n--i--\n--i\n--o--\n--i--\n"
        look = Look(text)
        for line, owner in [(2, ("border", ())), (5, ("border", (0,))), (6, ("gap", (0, 0))), (7, ("border", (0,))),
                            (8, ("behind", (0,))), (9, ("border", ())), (10, ("behind", ()))]:
            lines = text.splitlines(keepends=True)
            begin = len("".join(lines[:line]))
            for place in range(begin, begin + len(lines[line])):
                self.assertEqual(look.belongs(place), owner)


class RefusedTest(RefusedCase):
    def test_no_letter(self):
        self.no_letter(Look)
        self.assertEqual(self.refused(NoLetter, Look, COVER + "x").at, len(COVER) + 1)

    def test_no_letter_by_chance(self):
        chance = random.Random(30)
        known = 0
        for _ in range(300):
            text = some_damage(chance, some_part(chance).text())
            if not oracle.is_sound(text):
                known += 1
                self.assertEqual(self.refused(NoLetter, Look, text).at, steps(text)[0][1])
        self.assertGreater(known, 50)

    def test_no_path(self):
        look = Look(MANY)
        for value in NO_PATHS:
            for call in [look.part, look.whole, look.body, look.heads_at]:
                with self.subTest(value=ascii(value)):
                    self.refused(NoPath, call, value)

    def test_no_path_of_a_leaf_and_of_a_cover(self):
        for value in [(0,), (False,), (1,), [], None, (-1,)]:
            self.refused(NoPath, Look(LEAF).part, value)
        for value in [(1,), (False,), (0, 0), (-1,), (0.0,)]:
            self.refused(NoPath, Look(COVER).whole, value)

    def test_no_place(self):
        for text in ["\n", LEAF, MANY]:
            look = Look(text)
            for value in [*NO_PLACES, len(text), len(text) + 1, -len(text)]:
                with self.subTest(value=ascii(value)):
                    self.refused(NoPlace, look.belongs, value)
            look.belongs(len(text) - 1)
            look.belongs(0)


class AsTheWordsSayTest(RefusedCase):
    def test_by_chance(self):
        chance = random.Random(31)
        for _ in range(150):
            part = some_part(chance, 4)
            text = part.text()
            look = Look(text)
            owned = oracle.owned(text)
            told = [look.belongs(place) for place in range(len(text))]
            self.assertEqual(told, [owner for begin, end, owner in owned for _ in range(begin, end)])
            self.assertEqual(look.paths(), list(dict.fromkeys(owner[1] for _, _, owner in owned)))
            self.assertEqual(look.part(()), part)
            for path in look.paths():
                begin, end = look.whole(path)
                self.assertEqual(read_letter(text[begin:end]), look.part(path))
                heads = [(begin, end) for begin, end, owner in owned if owner[0] == "head" and owner[1] == path]
                self.assertEqual(look.heads_at(path), heads)
                gap = next(begin for begin, _, owner in owned if owner == ("gap", path))
                self.assertEqual(look.body(path), (gap + 1, end))


if __name__ == "__main__":
    unittest.main()
