"""Least trees: for each sayable symbol a tree of the fewest words, and one without words where there is one."""

from speechloom.growing import grown
from speechloom.places import placings_of
from speechloom.words import kept_forms, word_symbol


def least_trees(tongue):
    """A dict from (symbol, whether without words) to (number of words, tree), worked out once."""
    if "least trees" not in tongue.kept:
        tongue.kept["least trees"] = grown_least(tongue)
    return tongue.kept["least trees"]


def grown_least(tongue):
    """What least_trees tells: the rules are put over the trees that are known until none comes with fewer words."""
    least = leaf_trees(tongue)
    is_new = True
    while is_new:
        is_new = False
        for rule, symbols, whole in grown(tongue)[1]:
            for silent in silent_choices(symbols, least):
                keys = [(symbol, part == silent) for part, symbol in enumerate(symbols)]
                if all(key in least for key in keys):
                    number = sum(least[key][0] for key in keys)
                    key = (whole, number == 0)
                    if key not in least or number < least[key][0]:
                        trees = tuple(least[inner][1] for inner in keys)
                        least[key] = (number, tree_over(tongue, rule, trees, silent))
                        is_new = True
    return least


def leaf_trees(tongue):
    """The least trees of all words and gaps."""
    least = {}
    for text, stem, ending in kept_forms(tongue):
        least.setdefault((word_symbol(tongue, stem, ending), False), (1, ("word", stem, ending)))
    for kind, values, gap in grown(tongue)[0]:
        if gap == (kind, values):
            least[(kind, values, gap), True] = (0, ("gap", kind, values))
    return least


def silent_choices(symbols, least):
    """The parts' numbers of which one may be without words (-1: none)."""
    return [-1, *[part for part, symbol in enumerate(symbols) if (symbol, True) in least]]


def tree_over(tongue, rule, trees, silent):
    """The tree of a rule over these ones, the silent one without words, at places that are theirs."""
    return ("rule", rule, placings_of(tongue, (rule, silent))[0][1], trees)
