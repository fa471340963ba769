"""Fewest: the least number of words that make a sentence behind some words, and such a row."""

from speechloom.gathering import from_below, nodes_below
from speechloom.trees import words_of


def fewest_words(ahead):
    """A pair of the least number of words to come and a list of so many; None where no sentence goes on so."""
    roots = ahead.sentences()
    known = fewest_of_nodes(ahead, roots)
    if not roots:
        return None
    best = min(roots, key=lambda root: known[root][0])
    return (known[best][0], row_to_come(ahead, known, best))


def fewest_of_nodes(ahead, roots):
    """A dict from the nodes below the roots that have words to come to (least number of these, edge by which).

    Trees to come may be within others of the same node: so the nodes are gone through until no number is less.
    """
    nodes = sorted([node for node in from_below(ahead.edges, roots) if node >= ahead.first_open])
    known = {node: (ahead.words_to_come[node], ahead.edges[node][0]) for node in nodes if node in ahead.words_to_come}
    is_new = True
    while is_new:
        is_new = False
        for node in nodes:
            for edge in ahead.edges[node]:
                below = [inner for inner in nodes_below(edge) if inner >= ahead.first_open]
                if below and all(inner in known for inner in below):
                    number = sum(known[inner][0] for inner in below)
                    if node not in known or number < known[node][0]:
                        known[node] = (number, edge)
                        is_new = True
    return known


def row_to_come(ahead, known, root):
    """The list of the words to come in a tree of this node with the fewest of them."""
    row = []
    waiting = [root]
    while waiting:
        node = waiting.pop()
        if node in ahead.words_to_come:
            row.extend(words_of(ahead.tongue, known[node][1][1]))
        elif node >= ahead.first_open:
            # What is heard first is taken first: an edge has rows ahead of the part behind them.
            waiting.extend(nodes_below(known[node][1])[::-1])
    return row
