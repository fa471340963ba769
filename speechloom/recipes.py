"""Recipes: how a tongue's rules make rows of words, and meanings, of those of their parts, as limits.py tells them."""

from speechloom.growing import grown
from speechloom.least import least_trees, silent_choices
from speechloom.meanings import filled, with_pair
from speechloom.places import order_without, placings_of
from speechloom.trees import word_meaning
from speechloom.words import kept_forms, word_symbol


class Heard:
    """Rows of words as things of layers."""

    def with_inner(self, tag, thing, inner):
        """The words of a part behind those of others."""
        return thing + inner

    def key_of(self, thing):
        """A key of a row."""
        return thing


class Sensed:
    """Meanings as things of layers."""

    def with_inner(self, tag, thing, inner):
        """The meaning of a part put into that of others."""
        return filled(thing, inner) if tag == "fill" else with_pair(thing, tag, inner)

    def key_of(self, thing):
        """A key of a meaning: a text, as a meaning may be deep."""
        return repr(thing)


def heard_leaves(tongue):
    """The list of (symbol, row) of all words."""
    return [(word_symbol(tongue, stem, ending), (text,)) for text, stem, ending in kept_forms(tongue)]


def heard_rows(tongue):
    """The list of (rule, part without words or -1, symbols, whole) for all instances that have words."""
    least = least_trees(tongue)
    found = []
    for rule, symbols, whole in grown(tongue)[1]:
        for silent in silent_choices(symbols, least):
            keys = [(symbol, part == silent) for part, symbol in enumerate(symbols)]
            if all(key in least for key in keys) and any(not is_silent for symbol, is_silent in keys):
                found.append((rule, silent, symbols, whole))
    return found


def heard_recipe(row, order):
    """The recipe of a row of heard_rows whose parts with words are heard in this order."""
    rule, silent, symbols, whole = row
    return (whole, tuple(("", symbols[part]) for part in order), 0)


def orders_of(tongue, rule, silent):
    """The list of the unlike orders in which the parts of a rule that have words are heard."""
    orders = [order_without(places, silent) for stir, places in placings_of(tongue, (rule, silent))]
    return list({order: True for order in orders})


def meant_leaves(tongue):
    """The list of (symbol, meaning) of all words that aren't mute, and of all gaps."""
    found = [((kind, values, gap), ("", (), ())) for kind, values, gap in grown(tongue)[0] if gap == (kind, values)]
    for text, stem, ending in kept_forms(tongue):
        symbol = word_symbol(tongue, stem, ending)
        if not tongue.kind_named[symbol[0]][3]:
            found.append((symbol, word_meaning(tongue, stem, ending)))
    return found


def meant_recipes(tongue):
    """The list of the unlike recipes of meanings of all instances."""
    rows = grown(tongue)[1]
    return list({meant_recipe(tongue.own["rules"][rule][4], symbols, whole): True for rule, symbols, whole in rows})


def meant_recipe(parts, symbols, whole):
    """The recipe of the meaning of a whole over parts of these symbols."""
    roles = [part[0] for part in parts]
    if "host" in roles:
        steps = (("", symbols[roles.index("host")]), ("fill", symbols[roles.index("fill")]))
        return (whole, steps, 1)
    own = [(role, symbol) for role, symbol in zip(roles, symbols) if role not in ("head", "-")]
    return (whole, (("", symbols[roles.index("head")]), *sorted(own)), 0)
