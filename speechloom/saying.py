"""Saying: meanings to trees and rows of words."""

from speechloom.gathering import gathered, trees_in_order
from speechloom.looms import Loom
from speechloom.piecing import Pieced
from speechloom.pieces import Pieces
from speechloom.reading import gathered_of_sentences
from speechloom.tellers import BestHeard, BestWay, CountedWays, HeardWays, ListedWays
from speechloom.trees import is_whole_sentence


def ways(tongue, meaning):
    """The list of all sentences whose meaning this is, by rising (cost, tree)."""
    return trees_in_order(gathered_of_ways(tongue, meaning, ListedWays(tongue)))


def ways_as(tongue, meaning, symbol):
    """The list of all trees of that symbol with this meaning, by rising (cost, tree)."""
    pieces = Pieces(meaning)
    loom = Loom(tongue, pieces, symbol[2])
    roots = [loom.nodes[key] for key in loom.nodes if key[0] == symbol and key[1] == pieces.asked]
    return trees_in_order(gathered(loom.edges, roots, ListedWays(tongue)))


def count_ways(tongue, meaning):
    """How many ways there are."""
    return gathered_of_ways(tongue, meaning, CountedWays(tongue))


def best_way(tongue, meaning):
    """The first of the ways, or None."""
    best = gathered_of_ways(tongue, meaning, BestWay(tongue))
    return None if best is None else best[1]


def sayings(tongue, meaning):
    """The list of (cost, words) for each unlike row of words of the ways, by rising (cost, words)."""
    return sorted(gathered_of_ways(tongue, meaning, HeardWays(tongue)))


def best_saying(tongue, meaning):
    """The words of the first of the sayings, or None."""
    best = gathered_of_ways(tongue, meaning, BestHeard(tongue))
    return None if best is None else best[1][0]


def shows_saying(tongue, words, meaning):
    """Whether some sentence has these words and this meaning."""
    pieces = Pieces(meaning)
    return pieces.asked >= 0 and pieces.asked in gathered_of_sentences(tongue, words, Pieced(tongue, pieces))


def gathered_of_ways(tongue, meaning, told):
    """What is told of all sentences of this meaning together."""
    pieces = Pieces(meaning)
    loom = Loom(tongue, pieces, ())
    roots = [loom.nodes[key] for key in loom.nodes
             if key[1] == pieces.asked and is_whole_sentence(tongue, key[0])]
    return gathered(loom.edges, roots, told)
