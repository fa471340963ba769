"""Gatherings: what is told of all trees of a chart's or a loom's node, worked out from the nodes below it.

Each class here tells one thing of a chart's packed trees (those for a loom stand in tellers.py): leaf of one word or
gap, begin of the row without parts, step of rows with one part more, whole of the trees that a rule makes of full rows,
choice of all edges of one node together.
"""

from speechloom.fitting import placed
from speechloom.places import stir_at
from speechloom.trees import own_cost, own_meaning, rule_meaning


def gathered(edges, roots, told):
    """What is told of all trees of these nodes together."""
    known = {}
    for node in from_below(edges, roots):
        known[node] = told.choice([edge_told(edge, known, told) for edge in edges[node]])
    return told.choice([known[root] for root in roots])


def edge_told(edge, known, told):
    """What is told of one edge over nodes of which it is known."""
    if edge[0] == "leaf":
        return told.leaf(edge[1])
    if edge[0] == "same":
        return known[edge[1]]
    if edge[0] == "rule":
        return told.whole(edge[1], known[edge[2]])
    rows = told.begin(edge[1][0]) if edge[2] < 0 else known[edge[2]]
    return told.step(edge[1], rows, known[edge[3]])


def nodes_below(edge):
    """The list of the nodes of which the edge is made."""
    if edge[0] == "leaf":
        return []
    if edge[0] == "same":
        return [edge[1]]
    if edge[0] == "rule":
        return [edge[2]]
    return [edge[3]] if edge[2] < 0 else [edge[2], edge[3]]


def from_below(edges, roots):
    """The list of the roots and all nodes below them, each behind those of which it is made."""
    order = []
    seen = {}
    waiting = [(root, False) for root in roots]
    while waiting:
        node, is_done = waiting.pop()
        if is_done:
            order.append(node)
        elif node not in seen:
            seen[node] = True
            waiting.append((node, True))
            waiting.extend([(below, False) for edge in edges[node] for below in nodes_below(edge)])
    return order


def trees_in_order(pairs):
    """The trees of pairs (cost, tree), by rising pairs."""
    return [tree for cost, tree in sorted(pairs)]


def unlike(things):
    """The rising list of the things, each once."""
    things = sorted(things)
    return [thing for at, thing in enumerate(things) if at == 0 or thing != things[at - 1]]


class Counted:
    """How many trees there are."""

    def leaf(self, tree):
        """One word or gap."""
        return 1

    def begin(self, rule):
        """The row without parts."""
        return 1

    def step(self, step, rows, inner):
        """Rows with one part more."""
        return rows * inner

    def whole(self, rule, rows):
        """The trees of a rule."""
        return rows

    def choice(self, counts):
        """All together."""
        return sum(counts)


class Best:
    """The least pair (cost, tree), or None; of rows the least (cost, places, trees), both by parts' numbers."""

    def __init__(self, tongue):
        self.tongue = tongue

    def leaf(self, tree):
        """One word or gap."""
        return (own_cost(self.tongue, tree), tree)

    def begin(self, rule):
        """The row without parts."""
        many = len(self.tongue.own["rules"][rule][4])
        return (0, (-1,) * many, ((),) * many)

    def step(self, step, rows, inner):
        """A row with one part more.

        Its stir counts at once: rows of one node have the same parts, and the least of them stays so behind each rest.
        """
        rule, part, place = step
        cost = rows[0] + inner[0] + stir_at(self.tongue.own["rules"][rule], part, place)
        return (cost, placed(rows[1], part, place), placed(rows[2], part, inner[1]))

    def whole(self, rule, rows):
        """The tree of a rule."""
        return (rows[0] + self.tongue.own["rules"][rule][1], ("rule", rule, rows[1], rows[2]))

    def choice(self, pairs):
        """The least of all."""
        return min(pairs, default=None)


class Listed:
    """The list of all pairs (cost, tree)."""

    def __init__(self, tongue):
        self.one = Best(tongue)

    def leaf(self, tree):
        """One word or gap."""
        return [self.one.leaf(tree)]

    def begin(self, rule):
        """The row without parts."""
        return [self.one.begin(rule)]

    def step(self, step, rows, inner):
        """Rows with one part more."""
        return [self.one.step(step, row, pair) for row in rows for pair in inner]

    def whole(self, rule, rows):
        """The trees of a rule."""
        return [self.one.whole(rule, row) for row in rows]

    def choice(self, lists):
        """All together."""
        return [pair for pairs in lists for pair in pairs]


class Meant:
    """The rising list of the unlike meanings; of rows that of the meanings by parts' numbers, () for mute parts."""

    def __init__(self, tongue):
        self.tongue = tongue

    def leaf(self, tree):
        """One word or gap."""
        return [own_meaning(self.tongue, tree, [])]

    def begin(self, rule):
        """The row without parts."""
        return [((),) * len(self.tongue.own["rules"][rule][4])]

    def step(self, step, rows, inner):
        """Rows with one part more."""
        rule, part, place = step
        if self.tongue.own["rules"][rule][4][part][0] == "-":
            return rows
        return [placed(row, part, meaning) for row in rows for meaning in inner]

    def whole(self, rule, rows):
        """The meanings of a rule's trees."""
        return [rule_meaning(self.tongue.own["rules"][rule], row) for row in rows]

    def choice(self, lists):
        """All together, each once."""
        return unlike([thing for things in lists for thing in things])
