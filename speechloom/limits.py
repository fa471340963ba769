"""Limits: how large what trees of a symbol say may be, where it stands in sentences of a bounded size.

A recipe is a tuple (whole, steps, less): a symbol, and for each part that counts, in the order in which they are put
together, a pair (tag, symbol); the whole's size is the sum of the parts' sizes, less that number. Tags are the roles
of parts that are put into the first one; that of the first part, and of words behind words, is "".
"""


def limits_of(roots, leaves, recipes, most):
    """A dict from symbols to the greatest size of what they may say in sentences of at most that size.

    roots has the symbols of sentences, leaves is a dict from the symbols of words and gaps to their sizes. Symbols
    that stand in no such sentence aren't in it.
    """
    within = least_within(leaves, recipes)
    around = least_around([root for root in roots if root in within], recipes, within)
    return {symbol: most - around[symbol] for symbol in around if around[symbol] + within[symbol] <= most}


def is_within(limits, recipe):
    """Whether the recipe's whole and parts all have limits, and parts of the size 1 would do."""
    whole, steps, less = recipe
    return whole in limits and len(steps) - less <= limits[whole] and all(symbol in limits for tag, symbol in steps)


def least_within(leaves, recipes):
    """A dict from symbols to the least size of what they say."""
    within = dict(leaves)
    is_new = True
    while is_new:
        is_new = False
        for whole, steps, less in recipes:
            if all(symbol in within for tag, symbol in steps):
                size = sum(within[symbol] for tag, symbol in steps) - less
                if whole not in within or size < within[whole]:
                    within[whole] = size
                    is_new = True
    return within


def least_around(roots, recipes, within):
    """A dict from symbols that stand in sentences to the least size of what stands around them there."""
    around = {root: 0 for root in roots}
    is_new = True
    while is_new:
        is_new = False
        for whole, steps, less in recipes:
            if whole in around:
                size = around[whole] + sum(within[symbol] for tag, symbol in steps) - less
                for tag, symbol in steps:
                    if symbol not in around or size - within[symbol] < around[symbol]:
                        around[symbol] = size - within[symbol]
                        is_new = True
    return around
