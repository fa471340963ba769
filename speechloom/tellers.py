"""Tellers: what is told of all trees of a loom's node, worked out from the nodes below it, as gathering.py tells.

In a loom's rows the parts have no places yet: they are chosen where a whole is made. What stands in front is least
where the stir is: the places of least stir, then the least ones, go with the least trees of all parts.
"""

from speechloom.fitting import placed
from speechloom.gathering import Best, Counted, Listed, unlike
from speechloom.places import order_of, placings_of
from speechloom.trees import own_cost, own_words


def no_parts(tongue, rule):
    """A row of a rule without any part."""
    return ((),) * len(tongue.own["rules"][rule][4])


def words_in_order(row, places):
    """The words of parts, by their numbers, as they are heard at these places."""
    return tuple(word for part in order_of(places) for word in row[part])


class CountedWays(Counted):
    """How many trees there are."""

    def __init__(self, tongue):
        self.tongue = tongue

    def whole(self, key, rows):
        """The trees of a rule."""
        return rows * len(placings_of(self.tongue, key))


class BestWay(Best):
    """The least pair (cost, tree), or None; of rows the least (cost, trees), by parts' numbers."""

    def begin(self, rule):
        """The row without parts."""
        return (0, no_parts(self.tongue, rule))

    def step(self, step, rows, inner):
        """A row with one part more."""
        return (rows[0] + inner[0], placed(rows[1], step[1], inner[1]))

    def whole(self, key, rows):
        """The tree of a rule."""
        stir, places = placings_of(self.tongue, key)[0]
        return self.tree_at(key[0], rows, stir, places)

    def tree_at(self, rule, row, stir, places):
        """The pair of a rule's tree over this row at these places."""
        return (row[0] + self.tongue.own["rules"][rule][1] + stir, ("rule", rule, places, row[1]))


class ListedWays(Listed):
    """The list of all pairs (cost, tree)."""

    def __init__(self, tongue):
        self.one = BestWay(tongue)

    def whole(self, key, rows):
        """The trees of a rule."""
        placings = placings_of(self.one.tongue, key)
        return [self.one.tree_at(key[0], row, stir, places) for row in rows for stir, places in placings]


class HeardWays:
    """A list of (cost, words) with each unlike row of words once, at its least cost; of rows of parts likewise, with
    a tuple of words for each part."""

    def __init__(self, tongue):
        self.tongue = tongue

    def leaf(self, tree):
        """One word or gap."""
        return [(own_cost(self.tongue, tree), tuple(own_words(self.tongue, tree, [])))]

    def begin(self, rule):
        """The row without parts."""
        return [(0, no_parts(self.tongue, rule))]

    def step(self, step, rows, inner):
        """Rows with one part more."""
        return [(cost + more, placed(row, step[1], words)) for cost, row in rows for more, words in inner]

    def whole(self, key, rows):
        """The words of a rule's trees."""
        rank = self.tongue.own["rules"][key[0]][1]
        placings = placings_of(self.tongue, key)
        return [(cost + rank + stir, words_in_order(row, places)) for cost, row in rows for stir, places in placings]

    def choice(self, lists):
        """All together, each once."""
        least = {}
        for rows in lists:
            for cost, words in rows:
                least[words] = min(cost, least.get(words, cost))
        return [(least[words], words) for words in least]


class BestHeard:
    """A pair of the least cost of all trees and the rising list of the words of trees of that cost that may come to
    be the least, or None; of rows of parts likewise, with a tuple of words for each part."""

    def __init__(self, tongue):
        self.tongue = tongue

    def leaf(self, tree):
        """One word or gap."""
        return (own_cost(self.tongue, tree), [tuple(own_words(self.tongue, tree, []))])

    def begin(self, rule):
        """The row without parts."""
        return (0, [no_parts(self.tongue, rule)])

    def step(self, step, rows, inner):
        """Rows with one part more."""
        heard = still_least(inner[1])
        return (rows[0] + inner[0], [placed(row, step[1], words) for row in rows[1] for words in heard])

    def whole(self, key, rows):
        """The words of a rule's trees."""
        placings = placings_of(self.tongue, key)
        least = placings[0][0]
        heard = [words_in_order(row, places) for row in rows[1] for stir, places in placings if stir == least]
        return (rows[0] + self.tongue.own["rules"][key[0]][1] + least, heard)

    def choice(self, pairs):
        """The least of all."""
        least = min([pair[0] for pair in pairs], default=None)
        if least is None:
            return None
        return (least, unlike([words for cost, rows in pairs if cost == least for words in rows]))


def still_least(rows):
    """Those of a rising list of unlike rows that may be the least with the same words ahead and behind.

    A row that goes on behind the least one may still come ahead of it, by what it goes on with; no other one may.
    """
    kept = [rows[0]]
    for row in rows[1:]:
        if row[:len(kept[-1])] == kept[-1]:
            kept.append(row)
    return kept
