"""Reading: rows of words to trees and meanings."""

from speechloom.charts import chart_of
from speechloom.gathering import Best, Counted, Listed, Meant, gathered, trees_in_order
from speechloom.trees import is_sentence, is_whole_sentence, words_of


def readings(tongue, words):
    """The list of all sentences whose words these are, by rising (cost, tree)."""
    return trees_in_order(gathered_of_sentences(tongue, words, Listed(tongue)))


def readings_as(tongue, words, symbol):
    """The list of all trees of that symbol with these words, by rising (cost, tree)."""
    chart = chart_of(tongue, words, symbol[2])
    nodes = [chart.nodes.get((0, len(words), symbol), -1) if len(words) > 0 else chart.silent.get(symbol, -1)]
    return trees_in_order(gathered(chart.edges, [node for node in nodes if node >= 0], Listed(tongue)))


def count_readings(tongue, words):
    """How many readings there are."""
    return gathered_of_sentences(tongue, words, Counted())


def best_reading(tongue, words):
    """The first of the readings, or None."""
    best = gathered_of_sentences(tongue, words, Best(tongue))
    return None if best is None else best[1]


def meanings_for(tongue, words):
    """The rising list of the unlike meanings of the readings."""
    return gathered_of_sentences(tongue, words, Meant(tongue))


def shows_reading(tongue, words, tree):
    """Whether the tree is a sentence with these words."""
    return is_sentence(tongue, tree) and words_of(tongue, tree) == list(words)


def gathered_of_sentences(tongue, words, told):
    """What is told of all sentences with these words together."""
    chart = chart_of(tongue, words, ())
    roots = [chart.nodes[start, end, symbol] for start, end, symbol in chart.nodes
             if start == 0 and end == len(words) and is_whole_sentence(tongue, symbol)]
    return gathered(chart.edges, roots, told)
