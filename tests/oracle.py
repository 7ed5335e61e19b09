"""What points [24], [26] and [27] say of a text, told in another way than the program's: part within part."""

import re

from foldletter.codes import read_by
from foldletter.errors import NoCode, NoKind
from foldletter.kinds import read_kind

HEAD = re.compile(r"([A-Za-z][A-Za-z0-9-]{0,29}):([^\n]*\n(?: [^\n]*\n)*)")
ORDER = ["feed", "gap", "drop", "close"]


def kind_of(value):
    try:
        return read_kind(value)
    except NoKind:
        return None


def border_of(kind):
    for name, value in kind[2]:
        if name == "border" and re.fullmatch("[A-Za-z0-9]{1,40}", value):
            return value
    return None


def is_readable(body, code):
    try:
        read_by(body, code)
    except NoCode:
        return False
    return True


def cut_heads(text):
    """The heads of a part's text, tuples (name, value, begin, end), and the place behind them."""
    heads = []
    place = 0
    while found := HEAD.match(text, place):
        heads.append((found[1], found[2].replace("\n", "").strip(" "), place, found.end()))
        place = found.end()
    return heads, place


def cut_many(body, border):
    """A many's body: ahead, its parts, behind, each with its place, and whether an ending line is there."""
    lines = body.splitlines(keepends=True)
    places = [len("".join(lines[:number])) for number in range(len(lines) + 1)]
    first = lines.index("--" + border + "\n")
    rest = lines[first:]
    is_closed = "--" + border + "--\n" in rest
    ending = first + rest.index("--" + border + "--\n") if is_closed else len(lines)
    parts = []
    for number in range(first, ending):
        if lines[number] == "--" + border + "\n":
            parts.append((places[number + 1], ""))
        else:
            parts[-1] = (parts[-1][0], parts[-1][1] + lines[number])
    behind = "".join(lines[ending + 1:])
    return "".join(lines[:first]), parts, behind, is_closed


def is_sound(text):
    """What point [24] says."""
    heads, place = cut_heads(text)
    if not text.endswith("\n") or text[place:place + 1] != "\n":
        return False
    body = text[place + 1:]
    kinds = [kind_of(value) for name, value, _, _ in heads if name.lower() == "kind"]
    codes = [value.lower() for name, value, _, _ in heads if name.lower() == "code"]
    if len(kinds) > 1 or None in kinds or len(codes) > 1 or not set(codes) <= {"plain", "sixes", "marks"}:
        return False
    kind = kinds[0] if kinds else ("text", "plain", [])
    code = codes[0] if codes else "plain"
    if kind[0] == "cover":
        return code == "plain" and is_sound(body)
    if kind[0] != "many":
        return is_readable(body, code)
    border = border_of(kind)
    if border is None or "--" + border not in body.split("\n"):
        return False
    _, parts, _, is_closed = cut_many(body, border)
    return code == "plain" and is_closed and all(is_sound(part) for _, part in parts)


def mend(text, base=0):
    """The steps of a part's text that ends with a line feed or is empty, and that text mended."""
    heads, place = cut_heads(text)
    steps = []
    begin = place + 1
    if text[place:place + 1] != "\n":
        steps.append(("gap", base + place))
        begin = place
    body = text[begin:]
    kinds = [head for head in heads if head[0].lower() == "kind"]
    kind = kind_of(kinds[0][1]) if kinds else None
    if kind is not None and kind[0] == "many":
        border = border_of(kind)
        if border is None or "--" + border not in body.split("\n")[:-1]:
            kind = None
    dropped = kinds[1:] if kind else kinds
    kind = kind or ("text", "plain", [])
    codes = [head for head in heads if head[0].lower() == "code"]
    if codes:
        code = codes[0][1].lower()
        if kind[0] in ("many", "cover"):
            is_kept = code == "plain"
        else:
            is_kept = code in ("plain", "sixes", "marks") and is_readable(body, code)
        dropped = dropped + (codes[1:] if is_kept else codes)
    steps += [("drop", base + head[2]) for head in dropped]
    kept = "".join(text[head[2]:head[3]] for head in heads if head not in dropped) + "\n"
    if kind[0] == "cover":
        within, inner = mend(body, base + begin)
        return steps + within, kept + inner
    if kind[0] != "many":
        return steps, kept + body
    ahead, parts, behind, is_closed = cut_many(body, border)
    kept += ahead
    for at, part in parts:
        within, inner = mend(part, base + begin + at)
        steps += within
        kept += "--" + border + "\n" + inner
    if not is_closed:
        steps.append(("close", base + len(text)))
    return steps, kept + "--" + border + "--\n" + behind


def steps_and_mended(text):
    """What point [27] says."""
    fed = text if text == "" or text.endswith("\n") else text + "\n"
    steps, mended = mend(fed)
    steps = [(word, min(at, len(text))) for word, at in steps]
    if fed != text:
        steps.append(("feed", len(text)))
    return sorted(steps, key=lambda step: (step[1], ORDER.index(step[0]))), mended


def owned(text, path=(), base=0):
    """What point [26] says of a sound text: tuples (begin, end, owner), in order, each of one sign at least."""
    heads, place = cut_heads(text)
    told = [(base + begin, base + end, ("head", path, number)) for number, (_, _, begin, end) in enumerate(heads)]
    told.append((base + place, base + place + 1, ("gap", path)))
    begin = place + 1
    kinds = [kind_of(value) for name, value, _, _ in heads if name.lower() == "kind"]
    if kinds and kinds[0][0] == "cover":
        return told + owned(text[begin:], path + (0,), base + begin)
    if not kinds or kinds[0][0] != "many":
        return told + ([(base + begin, base + len(text), ("leaf", path))] if text[begin:] else [])
    border = border_of(kinds[0])
    ahead, parts, behind, _ = cut_many(text[begin:], border)
    if ahead:
        told.append((base + begin, base + begin + len(ahead), ("ahead", path)))
    for number, (at, part) in enumerate(parts):
        at += base + begin
        told.append((at - len(border) - 3, at, ("border", path)))
        told += owned(part, path + (number,), at)
    end = base + len(text) - len(behind)
    told.append((end - len(border) - 5, end, ("border", path)))
    if behind:
        told.append((end, base + len(text), ("behind", path)))
    return told


def told(text):
    """What point [32] says of a sound text: tuples (place, thing), told when all ahead of the place is taken."""
    things = []
    begun = set()
    for begin, end, owner in owned(text):
        word, path = owner[:2]
        rows = [(text.index("\n", begin) + 1, (word, path))]
        if word == "head":
            name, _, value = text[begin:end].partition(":")
            rows = [(text.index("\n", end) + 1, (word, path, name, value.replace("\n", "").strip(" ")))]
        if word in ("leaf", "ahead", "behind"):
            rows = []
            while begin < end:
                behind = text.index("\n", begin) + 1
                rows.append((behind, ("line" if word == "leaf" else word, path, text[begin:behind - 1])))
                begin = behind
        if path not in begun:
            begun.add(path)
            things.append((rows[0][0], ("begin", path)))
        things.extend(rows)
    return things
