"""Measures: all rows of words and all meanings of sentences up to a size, and the first of them that isn't plain."""

from speechloom.gathering import unlike
from speechloom.growing import grown
from speechloom.layers import Layers
from speechloom.limits import is_within, limits_of
from speechloom.reading import meanings_for
from speechloom.recipes import Heard, Sensed, heard_leaves, heard_recipe, heard_rows
from speechloom.recipes import meant_leaves, meant_recipes, orders_of
from speechloom.saying import sayings
from speechloom.trees import is_whole_sentence


def rows_upto(tongue, most):
    """The list of the unlike rows of words of all sentences of at most so many words, by rising (number, row)."""
    leaves = heard_leaves(tongue)
    rows = heard_rows(tongue)
    recipes = [heard_recipe(row, [part for part in range(len(row[2])) if part != row[1]]) for row in rows]
    limits = limits_of(sentences_of(tongue), {symbol: 1 for symbol, row in leaves}, recipes, most)
    layers = Layers(most, limits, Heard())
    for row, recipe in zip(rows, recipes):
        # Most rows of large tongues are too long: those aren't put into all orders.
        for order in orders_of(tongue, row[0], row[1]) if is_within(limits, recipe) else []:
            layers.learn(heard_recipe(row, order))
    layers.grow_all(leaves)
    return told_by(tongue, layers)


def meanings_upto(tongue, most):
    """The list of the unlike meanings of all sentences of at most so many nodes, by rising (nodes_of, meaning)."""
    leaves = meant_leaves(tongue)
    recipes = meant_recipes(tongue)
    limits = limits_of(sentences_of(tongue), {symbol: 1 for symbol, meaning in leaves}, recipes, most)
    layers = Layers(most, limits, Sensed())
    for recipe in recipes:
        layers.learn(recipe)
    layers.grow_all(leaves)
    return told_by(tongue, layers)


def two_meanings(tongue, most):
    """The first row of rows_upto that has two meanings or more, with these, or None."""
    for row in rows_upto(tongue, most):
        meanings = meanings_for(tongue, row)
        if len(meanings) > 1:
            return (row, meanings)
    return None


def two_sayings(tongue, most):
    """The first meaning of meanings_upto that has two sayings of other words, not of the same in another order, with
    all its sayings, or None."""
    for meaning in meanings_upto(tongue, most):
        said = sayings(tongue, meaning)
        if len(unlike([sorted(words) for cost, words in said])) > 1:
            return (meaning, said)
    return None


def sentences_of(tongue):
    """The list of the symbols of all sentences."""
    return [symbol for symbol in grown(tongue)[0] if is_whole_sentence(tongue, symbol)]


def told_by(tongue, layers):
    """The list of all unlike things of sentences, by their sizes, then rising."""
    found = []
    for size in range(layers.most + 1):
        found.extend(unlike([thing for root in sentences_of(tongue) for thing in layers.things_of(root, size)]))
    return found
