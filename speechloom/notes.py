"""Notes: meanings read from how they are written at a desk."""

from speechloom.entries import is_word
from speechloom.parts import is_name


class Begun:
    """A meaning whose end hasn't come yet. Field for the askers: role, of a pair that waits for its meaning, or ""."""

    def __init__(self, atom):
        self.atom = atom
        self.marks = []
        self.pairs = []
        self.role = ""

    def note(self, word):
        """Takes a mark or a role; whether it can stand there."""
        if is_word(word):
            self.role = word
            return is_name(word)
        name, sign, value = word.partition("=")
        rises = not self.marks or self.marks[-1][0] < name
        self.marks.append((name, value))
        return is_name(name) and is_name(value) and rises and not self.pairs

    def put_pair(self, meaning):
        """Takes the meaning for the role that waits; whether the pairs rise."""
        self.pairs.append((self.role, meaning))
        self.role = ""
        return len(self.pairs) == 1 or self.pairs[-2] <= self.pairs[-1]

    def ended(self):
        """The meaning that was told."""
        return (self.atom, tuple(self.marks), tuple(self.pairs))


def meaning_from(words):
    """The meaning that the words write, or None where they write none."""
    begun = []
    at = 0
    while at < len(words):
        if not begun or begun[-1].role != "":
            if words[at] != "(" or at + 1 == len(words) or not is_name(words[at + 1]):
                return None
            begun.append(Begun(words[at + 1]))
            at += 1
        elif words[at] == ")":
            meaning = begun.pop().ended()
            if not begun:
                return meaning if at == len(words) - 1 else None
            if not begun[-1].put_pair(meaning):
                return None
        elif not begun[-1].note(words[at]):
            return None
        at += 1
    return None
