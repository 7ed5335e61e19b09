"""Parts and texts made by chance, for tests."""

from foldletter.parts import Cover, Leaf, Many

from tests.samples import SIGNS

NAMES = ["Subject", "From", "X-1", "subject", "A", "to", "a" * 30, "Border", "Kinds", "Seal"]
CODES = ["plain", "sixes", "marks"]


def some_value(chance):
    signs = chance.choice([SIGNS, "a ", "abc ", "word "])
    return "".join(chance.choices(signs, k=chance.choice([0, 1, 5, 60, 80, 200]))).strip(" ")


def some_heads(chance, most=4):
    return [(chance.choice(NAMES), some_value(chance)) for _ in range(chance.randint(0, most))]


def some_octets(chance):
    line = chance.choice(["--b0", "--b0--", "--b1", "--b2", "", "A: b", "x", "Kind: many/mixed; border=b0", "a b ",
                          " "])
    rows = [
        [ord(sign) for sign in (line + "\n") * chance.randint(0, 4)],
        [chance.randrange(256) for _ in range(chance.choice([0, 1, 2, 3, 54, 55, 150]))],
        [chance.choice([65, 32, 10, 61]) for _ in range(chance.choice([1, 20, 150]))],
    ]
    return chance.choice(rows)


def some_kind(chance):
    pairs = [("border", chance.choice(["b0", "b1", "x y", ""])), ("n", some_value(chance))]
    kinds = [None, ("text", "plain", []), ("text", "mixed", pairs), ("manyx", "b+c", pairs[:1]),
             ("a", "many", pairs[1:])]
    return chance.choice(kinds)


def some_leaf(chance):
    octets = some_octets(chance)
    kind = some_kind(chance)
    heads = some_heads(chance)
    code = chance.choice([None, "sixes", "marks"])
    return Leaf(octets, kind=kind, code=code, heads=heads)


def some_lines(chance):
    lines = ["--b0\n", "--b0--\n", "--b1\n", "--b1--\n", "\n", "x\n", "A: b\n", " --b0\n", "--b0 \n"]
    return "".join(chance.choices(lines, k=chance.choice([0, 0, 1, 3])))


def some_part(chance, depth=3):
    """A part with at most so many ones within one another."""
    manner = chance.choice(["leaf", "many", "many", "cover"]) if depth > 1 else "leaf"
    if manner == "leaf":
        return some_leaf(chance)
    if manner == "cover":
        return Cover(some_part(chance, depth - 1), heads=some_heads(chance))
    parts = [some_part(chance, depth - 1) for _ in range(chance.randint(1, 3))]
    sub = chance.choice(["mixed", "a", "b" * 20, "c+d-1"])
    return Many(parts, sub=sub, heads=some_heads(chance), ahead=some_lines(chance), behind=some_lines(chance))


HEAD_LINES = [
    "Kind: many/mixed; border=b0", "kind: MANY/x; n=1; Border*0=b;border*1=1", "Kind: many/mixed", "Kind: cover/whole",
    'Kind: many/mixed; border="b-0"', "Kind: many/mixed; border=b1", "KIND: Cover/x; n=1", "Kind:", "Kind: text/plain",
    "Kind: text", "Kind: text/plain; n=1; n=2", "Code: plain", "Code: PLAIN", "code: sixes", "Code: marks",
    "Code: Marks",
    "Code: six", "Code:", "A: b", "B:c", " c", "  ", "Subject: a", "Border: b0",
]
BODY_LINES = [
    "--b0", "--b1", "--b0--", "--b1--", "--b2", "--b2--", "", "x", "QUJD", "QQ==", "=41", "a=", "=4", "--b0 ", " --b0",
    "--B0",
    "--b", "a: b", "1: c", ": d",
]
BLOCKS = [
    ["Kind: many/mixed; border=b0", "", "--b0"], ["Kind: many/a; border=b1", "", "--b0", "--b1"],
    ["Kind: many/a; border=b2", "", "--b2"], ["Kind: cover/whole", ""], ["A: b", "", "x"], ["--b0--", "--b1"], ["--b0"],
    ["--b1"], ["--b2--", "--b0"], ["", "QQ=="], ["Code: sixes", "", "QQ=="],
]


def some_torn(chance, most=16):
    """A text of lines that are torn from letters, the last one perhaps without its line feed."""
    lines = []
    size = chance.randint(0, most)
    while len(lines) < size:
        more = [chance.choice(BLOCKS), chance.choices(HEAD_LINES, k=2), chance.choices(BODY_LINES, k=2), [""]]
        lines.extend(chance.choices(more, [4, 1, 1, 1])[0])
        if chance.random() < 0.2:
            lines.pop()
    text = "".join(line + "\n" for line in lines)
    return text[:max(0, len(text) - chance.choice([0, 0, 0, 1, 2, 3]))]


def some_damage(chance, text):
    """A text with some of its lines and signs lost, doubled or put elsewhere."""
    lines = text.splitlines(keepends=True)
    for _ in range(chance.choice([0, 1, 1, 2, 4])):
        place = chance.randint(0, len(lines))
        lines[place:place + 1] = chance.choice([[], lines[place:place + 1] * 2, ["\n"], ["--b0\n"], ["--b0--\n"],
                                                ["x\n"]])
    text = "".join(lines)
    for _ in range(chance.choice([0, 0, 1, 3])):
        place = chance.randint(0, len(text))
        text = text[:place] + chance.choice(["", "\n", " ", ":", "-", "b"]) + text[place + chance.choice([0, 1]):]
    return text[:len(text) - chance.choice([0, 0, 0, 1, 5])]
