"""Words of a value: cut from it, and quoted for it."""

from foldletter.errors import NoWords
from foldletter.texts import is_figure, is_letter, is_line

ATOM_SIGNS = "!#$&'*+-./=?^_`{|}~"
MARKS = "<>@,;:[]"


def words(text):
    """The words of a text, tuples (sort, text, begin, end), in their order."""
    if not is_line(text):
        raise NoWords("no text without line feeds")
    cut = []
    place = 0
    while place < len(text):
        if text[place] == " ":
            place += 1
        else:
            word = _word_at(text, place)
            cut.append(word)
            place = word[3]
    return cut


def quoted(text):
    """The text as one word, an atom or a quoted one, that tells it."""
    if not is_line(text):
        raise NoWords("no text without line feeds")
    if text != "" and _atom_end(text, 0) == len(text):
        return text
    # The slashes go first, or those put ahead of the quotes were doubled too.
    inner = text.replace("\\", "\\\\").replace('"', '\\"')
    return '"' + inner + '"'


class WordRow:
    """The words of a value, remarks left out, to be taken one by one."""

    def __init__(self, value):
        self._cut = [word for word in words(value) if word[0] != "remark"]
        self._end = len(value)
        self._number = 0

    def place(self):
        """The begin of the next word, or how many signs the value has where there is none."""
        if self.is_over():
            return self._end
        return self._cut[self._number][2]

    def is_over(self):
        """Whether all words are taken."""
        return self._number == len(self._cut)

    def sees(self, *sorts):
        """Whether the next word is of one of the sorts."""
        return not self.is_over() and self._cut[self._number][0] in sorts

    def sees_mark(self, sign):
        """Whether the next word is this mark."""
        return self.sees("mark") and self._cut[self._number][1] == sign

    def take(self):
        """The next word, which there is; the one behind it is the next then."""
        word = self._cut[self._number]
        self._number += 1
        return word


def _word_at(text, begin):
    """The word that begins at a place where no blank stands."""
    sign = text[begin]
    if _is_atom_sign(sign):
        end = _atom_end(text, begin)
        return ("atom", text[begin:end], begin, end)
    if sign == '"':
        return _quoted_word(text, begin)
    if sign == "(":
        return _remark(text, begin)
    if sign in MARKS:
        return ("mark", sign, begin, begin + 1)
    raise NoWords("no word begins with this sign", begin)


def _is_atom_sign(sign):
    return is_letter(sign) or is_figure(sign) or sign in ATOM_SIGNS


def _atom_end(text, begin):
    """The place behind the stretch of an atom's signs that begins at a place."""
    end = begin
    while end < len(text) and _is_atom_sign(text[end]):
        end += 1
    return end


def _quoted_word(text, begin):
    """The quoted word whose first quote stands at a place."""
    kept = []
    place = begin + 1
    while place < len(text):
        if text[place] == '"':
            return ("quoted", "".join(kept), begin, place + 1)
        if text[place] == "\\":
            place += 1
        # A slice, since behind a slash at the text's end no sign stands.
        kept.append(text[place:place + 1])
        place += 1
    raise NoWords("a quoted word isn't closed", begin)


def _remark(text, begin):
    """The remark that the sign at a place opens, with those within it."""
    depth = 0
    place = begin
    while place < len(text):
        if text[place] == "\\":
            place += 1
        elif text[place] == "(":
            depth += 1
        elif text[place] == ")":
            depth -= 1
            if depth == 0:
                return ("remark", text[begin + 1:place], begin, place + 1)
        place += 1
    raise NoWords("a remark isn't closed", begin)
