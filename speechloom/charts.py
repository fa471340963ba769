"""Charts: all trees over all pieces of a row of words, packed.

A chart's nodes are of three sorts: for all trees of one symbol over one piece of the row; for all trees over one piece
that do the same as the same part of a rule; and for all rows of trees that begin a rule over one piece, as far as what
comes behind can't tell them apart. An edge is one way to make a node's trees, or rows, out of others:

("leaf", tree); ("same", node); ("rule", rule, node of full rows);
("part", (rule, part, place), node of rows or -1, node of trees).
"""

from speechloom.fitting import fits_of
from speechloom.lines import lines_of
from speechloom.trees import is_gap
from speechloom.words import analyses, word_symbol


def chart_of(tongue, words, gap):
    """The chart of the words, for trees without a gap or with this one.

    A gap serves only where some piece of the row fills it: so the gaps are those of such pieces, and as they may come
    up by others being filled, the row is looked at until there are no more.
    """
    gaps = [gap] if gap != () and is_gap(tongue, gap[0], gap[1]) else []
    while True:
        chart = Chart(tongue, gaps)
        chart.read(words)
        more = gaps_to_fill(tongue, chart, gaps)
        if not more:
            return chart
        gaps = gaps + more


def gaps_to_fill(tongue, chart, gaps):
    """The list of the gaps, but the known ones, that the chart's trees could fill."""
    found = {}
    for start, end, symbol in chart.nodes:
        gap = (symbol[0], symbol[1])
        if gap not in gaps and gap not in found and is_fill(tongue, symbol):
            found[gap] = True
    return list(found)


def is_fill(tongue, symbol):
    """Whether trees of this symbol could fill a gap."""
    if not is_gap(tongue, symbol[0], symbol[1]):
        return False
    return any(fitting.parts[part][0] == "fill" for fitting, part, binds in fits_of(tongue, symbol))


class Chart:
    """Fields for the askers: edges, for each node the list of its edges; nodes, a dict from (start, end, symbol) to
    the node of those trees; silent, a dict from symbols to the nodes of their trees without words."""

    def __init__(self, tongue, gaps):
        self.tongue = tongue
        self.lines = lines_of(tongue)
        self.edges = []
        self.nodes = {}
        self.silent = {}
        self.unheard = {}
        self.tell_silent(gaps)
        # For each rule, and whether a gap may still come, the stages at which its lines begin.
        self.roots = self.roots_of_lines()
        # By places in the row, and whether a gap may still come: for each key of wants the rows, by their stages.
        self.waiting = [{True: {}, False: {}}]
        # What ends at the place that is looked at now: by starts the symbols still to be used; the parts; the rows.
        self.fresh = []
        self.fitted = {}
        self.begun = {}

    def new_node(self, edge):
        """A node with one edge."""
        self.edges.append([edge])
        return len(self.edges) - 1

    def tell_silent(self, gaps):
        """Makes the nodes of the trees without words: gaps, and rules of one part above them."""
        symbols = [(kind, values, (kind, values)) for kind, values in gaps]
        for symbol in symbols:
            self.silent[symbol] = self.new_node(("leaf", ("gap", symbol[0], symbol[1])))
        at = 0
        while at < len(symbols):
            symbols.extend(self.use_silent(symbols[at]))
            at += 1

    def use_silent(self, symbol):
        """Puts trees without words into all parts that they fit; the list of the new symbols of such trees."""
        new = []
        for fitting, part, binds in fits_of(self.tongue, symbol):
            self.unheard.setdefault((fitting.number, part), []).append((symbol, binds))
            if len(fitting.parts) == 1:
                row = self.new_node(("part", (fitting.number, part, 0), -1, self.silent[symbol]))
                whole = fitting.whole(binds, symbol[2])
                if whole in self.silent:
                    self.edges[self.silent[whole]].append(("rule", fitting.number, row))
                else:
                    self.silent[whole] = self.new_node(("rule", fitting.number, row))
                    new.append(whole)
        return new

    def roots_of_lines(self):
        """The stages at which lines begin, those alone whose missing part may be without words."""
        roots = {}
        for rule, lines in enumerate(self.lines):
            roots[rule, True] = [root for root in lines.roots if root.state.missing < 0]
            roots[rule, False] = [root for root in lines.roots if (rule, root.state.missing) in self.unheard]
        return roots

    def read(self, words):
        """Makes the nodes of all trees with words, by rising ends, then falling starts."""
        for end, word in enumerate(words, start=1):
            self.waiting.append({True: {}, False: {}})
            self.fresh = [[] for start in range(end)]
            self.fitted = {}
            self.begun = {}
            for tree in analyses(self.tongue, word):
                self.put_tree(end - 1, end, word_symbol(self.tongue, tree[1], tree[2]), ("leaf", tree))
            for start in reversed(range(end)):
                at = 0
                while at < len(self.fresh[start]):
                    self.use(start, end, self.fresh[start][at])
                    at += 1

    def put_tree(self, start, end, symbol, edge):
        """Gives the node of these trees one edge more."""
        key = (start, end, symbol)
        if key in self.nodes:
            self.edges[self.nodes[key]].append(edge)
        else:
            self.nodes[key] = self.new_node(edge)
            self.fresh[start].append(symbol)

    def use(self, start, end, symbol):
        """Puts the trees of this piece into all parts that they fit.

        Trees that bind the same as the same part come there together, by one node.
        """
        for fitting, part, binds in fits_of(self.tongue, symbol):
            gap = fitting.gap_through(symbol)
            key = (start, fitting.number, part, binds, gap)
            edge = ("same", self.nodes[start, end, symbol])
            if key in self.fitted:
                self.edges[self.fitted[key]].append(edge)
            else:
                self.fitted[key] = self.new_node(edge)
                self.use_as_part(key, self.fitted[key], end)

    def use_as_part(self, key, node, end):
        """Puts the trees of a node, as one part, first into rows and behind those that are begun."""
        start, rule, part, binds, gap = key
        for is_open in [True] if gap != () else [True, False]:
            for root in self.roots[rule, is_open]:
                if part in root.state.steps:
                    self.go_on(root, [(start, (), -1)], (part, binds, gap, node), end)
            for wanted in self.lines[rule].offers(part, binds):
                rows = self.waiting[start][is_open].get(wanted, {})
                for stage in list(rows):
                    self.go_on(stage, rows[stage], (part, binds, gap, node), end)

    def go_on(self, stage, rows, taken, end):
        """Puts a part behind rows of one stage."""
        part, binds, gap, node = taken
        later = stage.behind(part, binds)
        step = (stage.state.fitting.number, part, stage.state.steps[part][0])
        for start, held, row in list(rows):
            self.put_row((start, later, held or gap), ("part", step, row, node), end)

    def put_row(self, key, edge, end):
        """Gives the node of these rows (start, stage, gap) one edge more."""
        if key in self.begun:
            self.edges[self.begun[key]].append(edge)
            return
        row = self.new_node(edge)
        self.begun[key] = row
        start, stage, held = key
        rows = self.waiting[end][held == () and stage.state.missing < 0]
        for wanted in stage.wants:
            rows.setdefault(wanted, {}).setdefault(stage, []).append((start, held, row))
        if not stage.wants:
            self.finish(key, row, end)

    def finish(self, key, row, end):
        """Makes the wholes of rows in which all parts with words are heard."""
        start, stage, held = key
        fitting, missing = stage.state.fitting, stage.state.missing
        if missing < 0:
            self.put_tree(start, end, fitting.whole(stage.bound, held), ("rule", fitting.number, row))
            return
        step = (fitting.number, missing, stage.state.steps[missing][0])
        for symbol, binds in self.unheard[fitting.number, missing]:
            full = stage.behind(missing, binds)
            if full is not None:
                whole = fitting.whole(full.bound, fitting.gap_through(symbol))
                edge = ("part", step, row, self.silent[symbol])
                self.put_tree(start, end, whole, ("rule", fitting.number, self.new_node(edge)))
