"""Looks at a tongue: what of it stands in some sentence, and what never does."""

from speechloom.growing import Growth, grown, leaf_symbols
from speechloom.least import least_trees, tree_over
from speechloom.trees import is_whole_sentence
from speechloom.words import kept_forms, word_symbol


def served(tongue, rule):
    """A sentence in which the rule (a number) stands, or None where it serves never."""
    met = kept_met(tongue)
    rows = [row for row in grown(tongue)[1] if row[0] == rule and row[2] in met]
    if not rows:
        return None
    number, symbols, whole = min(rows, key=lambda row: sum(least_of(tongue, symbol)[0] for symbol in row[1]))
    tree = tree_of(tongue, number, [least_of(tongue, symbol)[1] for symbol in symbols])
    while met[whole] is not None:
        (number, symbols, whole), place = met[whole]
        trees = [least_of(tongue, symbol)[1] for symbol in symbols]
        tree = tree_of(tongue, number, [*trees[:place], tree, *trees[place + 1:]])
    return tree


def never_rules(tongue):
    """The rising list of the numbers of the rules that serve never."""
    met = kept_met(tongue)
    serving = {rule: True for rule, symbols, whole in grown(tongue)[1] if whole in met}
    return [rule for rule in range(len(tongue.own["rules"])) if rule not in serving]


def idle_stems(tongue):
    """The rising list of the numbers of the stems that serve never."""
    serving = {stem: True for stem, ending in serving_words(tongue)}
    return [stem for stem in range(len(tongue.own["stems"])) if stem not in serving]


def idle_endings(tongue):
    """The rising list of the numbers of the endings that serve never."""
    serving = {ending: True for stem, ending in serving_words(tongue)}
    return [ending for ending in range(len(tongue.own["endings"])) if ending not in serving]


def never_paper(tongue, rule):
    """A pair (said, met) that shows_never takes, or None where the rule serves."""
    if rule not in never_rules(tongue):
        return None
    return (list(grown(tongue)[0]), sorted(kept_met(tongue)))


def shows_never(tongue, rule, said, met):
    """Whether the lists of symbols show that the rule serves never: said has all that can be said, met all of it that
    stands in sentences, and the rule makes nothing that is met."""
    said = {symbol: True for symbol in said}
    met = {symbol: True for symbol in met}
    if any(symbol not in said for symbol in leaf_symbols(tongue)):
        return False
    growth = Growth(tongue, list(said))
    for symbol in said:
        growth.take(symbol)
    if len(growth.symbols) > len(said):
        return False
    if any(is_whole_sentence(tongue, symbol) and symbol not in met for symbol in said):
        return False
    rows = [row for row in growth.rows if row[2] in met]
    return all(row[0] != rule and all(symbol in met for symbol in row[1]) for row in rows)


def kept_met(tongue):
    """A dict from the symbols of all trees within sentences to (instance with them in it, their number there), None
    for those of sentences; worked out once."""
    if "met" not in tongue.kept:
        makers = {}
        for row in grown(tongue)[1]:
            makers.setdefault(row[2], []).append(row)
        waiting = [symbol for symbol in grown(tongue)[0] if is_whole_sentence(tongue, symbol)]
        met = {symbol: None for symbol in waiting}
        at = 0
        while at < len(waiting):
            for row in makers.get(waiting[at], []):
                for place, symbol in enumerate(row[1]):
                    if symbol not in met:
                        met[symbol] = (row, place)
                        waiting.append(symbol)
            at += 1
        tongue.kept["met"] = met
    return tongue.kept["met"]


def serving_words(tongue):
    """The list of (stem, ending) of all words that stand in some sentence."""
    met = kept_met(tongue)
    return [(stem, ending) for text, stem, ending in kept_forms(tongue) if word_symbol(tongue, stem, ending) in met]


def least_of(tongue, symbol):
    """The number of words and the tree of the fewest words of this symbol."""
    least = least_trees(tongue)
    return least[symbol, (symbol, True) in least]


def tree_of(tongue, rule, trees):
    """The tree of a rule over these ones, at places that are theirs."""
    silent = [part for part, tree in enumerate(trees) if is_silent(tree)]
    return tree_over(tongue, rule, tuple(trees), silent[0] if silent else -1)


def is_silent(tree):
    """Whether the tree has no words: it is a gap, or rules of one part above one."""
    while tree[0] == "rule" and len(tree[3]) == 1:
        tree = tree[3][0]
    return tree[0] == "gap"
