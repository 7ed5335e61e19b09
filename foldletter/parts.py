"""Parts of a letter: leaves, manys and covers."""

from foldletter.borders import border_line, ending_line, least_border
from foldletter.codes import best, is_octets, written_by
from foldletter.errors import NoCode, NoPart
from foldletter.heads import fold, is_head
from foldletter.kinds import is_kind, is_sort, plain_kind, show_kind
from foldletter.texts import is_text


class Part:
    """What a letter is made of. Each part is a leaf, a many or a cover, and tells these things as such."""

    def manner(self):
        """The word of what the part is: leaf, many or cover."""
        raise NotImplementedError("a part is a leaf, a many or a cover")

    def heads(self):
        """The heads that the part was made with."""
        raise NotImplementedError("a part is a leaf, a many or a cover")

    def own_heads(self):
        """The heads with which the part is written."""
        raise NotImplementedError("a part is a leaf, a many or a cover")

    def text(self):
        """The part as it is written."""
        raise NotImplementedError("a part is a leaf, a many or a cover")


class Leaf(Part):
    """A part of octets."""

    def __init__(self, octets, *, kind=None, code=None, heads=None):
        if not is_octets(octets):
            raise NoPart("no octets of a leaf")
        self._octets = list(octets)
        self._kind = _kind_of_leaf(kind)
        self._code = best(octets) if code is None else code
        self._heads = _heads_of(heads)
        # Written at once, since it tells whether the code can write the octets.
        self._text = _written(self.own_heads(), _body_by(self._octets, self._code))

    def __eq__(self, other):
        return isinstance(other, Leaf) and self._things() == other._things()

    def manner(self):
        """The word of a leaf."""
        return "leaf"

    def heads(self):
        """The heads, without those of kind and code."""
        return list(self._heads)

    def own_heads(self):
        """The heads, those of kind and code behind."""
        own = [*self._heads, ("Kind", show_kind(self._kind))]
        if self._code != "plain":
            own.append(("Code", self._code))
        return own

    def text(self):
        """The leaf as it is written."""
        return self._text

    def octets(self):
        """The octets."""
        return list(self._octets)

    def kind(self):
        """The kind."""
        return _kind_copied(self._kind)

    def code(self):
        """The word of the code by which the octets are written."""
        return self._code

    def _things(self):
        return (_alike(self._heads), self._octets, self._kind, self._code)


class Many(Part):
    """A part of several parts, between borders."""

    def __init__(self, parts, *, sub="mixed", heads=None, ahead="", behind=""):
        if not isinstance(parts, list) or parts == [] or not all([is_part(part) for part in parts]):
            raise NoPart("no parts of a many")
        if not is_sort(sub):
            raise NoPart("no sub of a many")
        self._parts = list(parts)
        self._sub = sub
        self._heads = _heads_of(heads)
        self._ahead = _lines_of(ahead)
        self._behind = _lines_of(behind)
        # Asked once, since the parts within a many never change.
        self._border = self._least_border()
        self._text = _written(self.own_heads(), self._body())

    def __eq__(self, other):
        return isinstance(other, Many) and self._things() == other._things()

    def manner(self):
        """The word of a many."""
        return "many"

    def heads(self):
        """The heads, without that of the kind."""
        return list(self._heads)

    def own_heads(self):
        """The heads, that of the kind behind."""
        return [*self._heads, ("Kind", show_kind(("many", self._sub, [("border", self._border)])))]

    def text(self):
        """The many as it is written."""
        return self._text

    def parts(self):
        """The parts, in order."""
        return list(self._parts)

    def sub(self):
        """The sub of the many's kind."""
        return self._sub

    def border(self):
        """The border between the parts."""
        return self._border

    def ahead(self):
        """The lines ahead of the first part."""
        return self._ahead

    def behind(self):
        """The lines behind the last part."""
        return self._behind

    def _least_border(self):
        lines = self._ahead.split("\n")
        for part in self._parts:
            lines.extend(part.text().split("\n"))
        return least_border(lines)

    def _body(self):
        line = border_line(self._border) + "\n"
        within = "".join([line + part.text() for part in self._parts])
        return self._ahead + within + ending_line(self._border) + "\n" + self._behind

    def _things(self):
        return (_alike(self._heads), self._parts, self._sub, self._ahead, self._behind)


class Cover(Part):
    """A part that is a letter's cover."""

    def __init__(self, inner, *, heads=None):
        if not is_part(inner):
            raise NoPart("no letter in a cover")
        self._inner = inner
        self._heads = _heads_of(heads)
        self._text = _written(self.own_heads(), inner.text())

    def __eq__(self, other):
        return isinstance(other, Cover) and self._things() == other._things()

    def manner(self):
        """The word of a cover."""
        return "cover"

    def heads(self):
        """The heads, without that of the kind."""
        return list(self._heads)

    def own_heads(self):
        """The heads, that of the kind behind."""
        return [*self._heads, ("Kind", show_kind(("cover", "whole", [])))]

    def text(self):
        """The cover as it is written."""
        return self._text

    def inner(self):
        """The letter within."""
        return self._inner

    def _things(self):
        return (_alike(self._heads), self._inner)


def is_part(value):
    """Whether a value, of any kind, is a leaf, a many or a cover."""
    return isinstance(value, Leaf) or isinstance(value, Many) or isinstance(value, Cover)


def _heads_of(heads):
    """The list of a part's heads, of those handed in, or of none."""
    if heads is None:
        return []
    if not isinstance(heads, list) or not all([_is_free_head(head) for head in heads]):
        raise NoPart("no heads of a part")
    return list(heads)


def _is_free_head(value):
    return is_head(value) and value[0].lower() != "kind" and value[0].lower() != "code"


def _kind_of_leaf(kind):
    if kind is None:
        return plain_kind()
    if not is_kind(kind) or kind[0] == "many" or kind[0] == "cover":
        raise NoPart("no kind of a leaf")
    return _kind_copied(kind)


def _kind_copied(kind):
    main, sub, pairs = kind
    return (main, sub, list(pairs))


def _body_by(octets, code):
    try:
        return written_by(octets, code)
    except NoCode:
        raise NoPart("no code that can write the octets")


def _lines_of(text):
    if not is_text(text) or not (text == "" or text.endswith("\n")):
        raise NoPart("no lines of a many")
    return text


def _written(own_heads, body):
    return "".join([fold(name, value) for name, value in own_heads]) + "\n" + body


def _alike(heads):
    """The heads with their names as they are alike."""
    return [(name.lower(), value) for name, value in heads]
