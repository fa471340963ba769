"""Entries: what one row of a tongue's text writes, read from its words.

Each reader takes the list of the words behind the first one of a row, and tells None where they aren't so written.
What is so written may still be refused as no part of a sound tongue: that is asked elsewhere.
"""

from speechloom.parts import LETTERS

FIGURES = "0123456789"
MOST_FIGURES = 9
SORTS = ("plain", "gap", "mute")
LETTING = ("lets", "shut")


def is_word(text):
    """Whether it has a letter at least, and letters a to z alone."""
    return text != "" and all(sign in LETTERS for sign in text)


def are_words(texts):
    """Whether all of them are words."""
    return all(is_word(text) for text in texts)


def is_word_or_none(text):
    """Whether it is a word, or tells that there is none."""
    return text == "-" or is_word(text)


def told_text(text):
    """The text that is_word_or_none lets be, "" for none."""
    return "" if text == "-" else text


def is_number(text):
    """Whether it is a number so written: figures, with no nought ahead."""
    if not 1 <= len(text) <= MOST_FIGURES or any(sign not in FIGURES for sign in text):
        return False
    return text == "0" or text[0] != "0"


def are_rising(names):
    """Whether each name is more than the one ahead of it."""
    return all(one < other for one, other in zip(names, names[1:]))


def bundle_from(words):
    """The bundle that the words F=V or F=V|V write, by rising names."""
    bundle = {}
    names = []
    for word in words:
        name, sign, rest = word.partition("=")
        values = rest.split("|")
        if not is_word(name) or not are_words(values):
            return None
        names.append(name)
        bundle[name] = values
    return bundle if are_rising(names) else None


def marks_from(words):
    """The marks that the words F=V write, by rising names."""
    bundle = bundle_from(words)
    if bundle is None or any(len(bundle[name]) > 1 for name in bundle):
        return None
    return {name: bundle[name][0] for name in bundle}


def feature_from(words):
    """F ! V .. or F : V .."""
    if len(words) < 2 or words[1] not in ("!", ":") or not are_words([words[0], *words[2:]]):
        return None
    return (words[0], words[2:], words[1] == "!")


def kind_from(words):
    """NAME SORT F .."""
    if len(words) < 2 or words[1] not in SORTS or not are_words([words[0], *words[2:]]):
        return None
    return (words[0], words[2:], words[1] == "gap", words[1] == "mute")


def seam_from(words):
    """LEFT RIGHT MADE"""
    if len(words) != 3 or not all(is_word_or_none(word) for word in words):
        return None
    return tuple(told_text(word) for word in words)


def stem_from(words):
    """TEXT KIND LINE ATOM RANK MARK .."""
    marks = marks_from(words[5:])
    if len(words) < 5 or marks is None or not is_number(words[4]):
        return None
    text, kind, line, atom, rank = words[:5]
    if not (is_word_or_none(text) and are_words([kind, line]) and is_word_or_none(atom)):
        return None
    return (told_text(text), kind, line, told_text(atom), marks, int(rank))


def ending_from(words):
    """LINE TEXT RANK MARK .."""
    marks = marks_from(words[3:])
    if len(words) < 3 or marks is None or not is_number(words[2]):
        return None
    if not (is_word(words[0]) and is_word_or_none(words[1])):
        return None
    return (words[0], told_text(words[1]), marks, int(words[2]))


def rule_from(words):
    """NAME RANK KIND STRAY STIR BUNDLE: the rule without its parts, groups and pairs of ahead."""
    bundle = bundle_from(words[5:])
    if len(words) < 5 or bundle is None or not are_words([words[0], words[2]]):
        return None
    if not all(is_number(word) for word in [words[1], words[3], words[4]]):
        return None
    return (words[0], int(words[1]), words[2], bundle, [], [], (int(words[3]), int(words[4]), []))


def part_from(words):
    """ROLE KIND LETS BUNDLE"""
    bundle = bundle_from(words[3:])
    if len(words) < 3 or bundle is None or words[2] not in LETTING:
        return None
    if not (is_word_or_none(words[0]) and is_word(words[1])):
        return None
    return (words[0], words[1], bundle, words[2] == "lets")


def group_from(words):
    """N.F .., or whole.F"""
    group = []
    for word in words:
        number, sign, name = word.partition(".")
        if not (number == "whole" or is_number(number)) or not is_word(name):
            return None
        group.append((-1 if number == "whole" else int(number), name))
    return group


def pair_from(words):
    """N N"""
    if len(words) != 2 or not all(is_number(word) for word in words):
        return None
    return (int(words[0]), int(words[1]))


def start_from(words):
    """KIND"""
    return words[0] if len(words) == 1 and is_word(words[0]) else None


READERS = {
    "feature": feature_from, "kind": kind_from, "seam": seam_from, "stem": stem_from, "ending": ending_from,
    "rule": rule_from, "part": part_from, "agree": group_from, "ahead": pair_from, "start": start_from,
}


def entry_from(name, words):
    """What a row of this name, one of those that a tongue's text has, writes with these words behind it, or None."""
    reader = READERS[name]
    return reader(words)
