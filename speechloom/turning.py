"""Turning: texts of one tongue into another one, by their meanings."""

from speechloom.reading import best_reading, meanings_for, shows_reading
from speechloom.saying import best_saying, sayings
from speechloom.trees import meaning_of


def turned(one, other, words):
    """The list of (meaning, its sayings in other) for each meaning of the words in one."""
    return [(meaning, sayings(other, meaning)) for meaning in meanings_for(one, words)]


def best_turned(one, other, words):
    """The best saying in other of what the best reading of the words in one means, or None."""
    tree = best_reading(one, words)
    return None if tree is None else best_saying(other, meaning_of(one, tree))


def shows_turned(one, other, words, row, tree, twin):
    """Whether tree is a reading of words in one, twin one of row in other, and both have one meaning."""
    if not shows_reading(one, words, tree) or not shows_reading(other, row, twin):
        return False
    return meaning_of(one, tree) == meaning_of(other, twin)
