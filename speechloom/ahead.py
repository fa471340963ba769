"""Ahead: the chart of the first words of a sentence, read on into words that aren't known.

Behind the last word all that can be said may stand: one place further on, called beyond, ends whatever begins at one
of the words and goes on behind the last, and whatever stands behind it. Such trees come up as those over words do, but
for what lies wholly among the words to come, which is known by its symbol alone.
"""

from speechloom.charts import Chart
from speechloom.fitting import fits_of
from speechloom.gathering import from_below
from speechloom.growing import grown
from speechloom.least import least_trees
from speechloom.lines import lines_of
from speechloom.trees import is_whole_sentence


class Ahead(Chart):
    """Fields for the askers, beside a chart's: first_open, the first node that has words to come; words_to_come, a
    dict from the nodes of what is known by its symbol to the fewest words of it."""

    def __init__(self, tongue, words):
        super().__init__(tongue, kept_gaps(tongue))
        self.many = len(words)
        self.read(words)
        self.first_open = len(self.edges)
        self.least = least_trees(tongue)
        self.parts_to_come = kept_parts(tongue)
        self.symbol_nodes = {}
        self.part_nodes = {}
        self.words_to_come = {}
        self.next_nodes = {}
        self.read_on()

    def read_on(self):
        """Makes the nodes of all trees that end beyond."""
        beyond = self.many + 1
        self.waiting.append({True: {}, False: {}})
        self.fresh = [[] for start in range(beyond)]
        self.fitted = {}
        self.begun = {}
        for is_open in (True, False):
            rows = self.waiting[self.many][is_open]
            for wanted in list(rows):
                for stage in list(rows[wanted]):
                    self.put_to_come(wanted, stage, rows[wanted][stage], is_open, True)
        for start in reversed(range(self.many)):
            at = 0
            while at < len(self.fresh[start]):
                self.use(start, beyond, self.fresh[start][at])
                at += 1

    def put_to_come(self, wanted, stage, rows, is_open, is_next):
        """Puts all that may come behind rows that wait for it; is_next: just behind the last word."""
        for key in self.parts_to_come[0].get(wanted, []):
            rule, part, binds, gap = key
            if gap == () or is_open:
                self.go_on(stage, rows, (part, binds, gap, self.part_node(key, is_next)), self.many + 1)

    def put_row(self, key, edge, end):
        """Gives the node of these rows one edge more; what ends beyond goes on with words to come at once."""
        is_new = key not in self.begun
        super().put_row(key, edge, end)
        if is_new and end > self.many:
            start, stage, held = key
            is_open = held == () and stage.state.missing < 0
            for wanted in stage.wants:
                self.put_to_come(wanted, stage, [(start, held, self.begun[key])], is_open, False)

    def part_node(self, key, is_next):
        """The node of all trees to come that do the same as the same part."""
        name = (key, is_next)
        if name not in self.part_nodes:
            nodes = [self.symbol_node(symbol, is_next) for symbol in self.parts_to_come[1][key]]
            self.edges.append([("same", node) for node in nodes])
            self.part_nodes[name] = len(self.edges) - 1
        return self.part_nodes[name]

    def symbol_node(self, symbol, is_next):
        """The node of all trees to come of this symbol: one of the fewest words stands for them."""
        name = (symbol, is_next)
        if name not in self.symbol_nodes:
            number, tree = self.least[symbol, False]
            node = self.new_node(("leaf", tree))
            self.symbol_nodes[name] = node
            self.words_to_come[node] = number
            if is_next:
                self.next_nodes[node] = symbol
        return self.symbol_nodes[name]

    def is_sentence_yet(self):
        """Whether the words are a sentence already."""
        return any(start == 0 and end == self.many and is_whole_sentence(self.tongue, symbol)
                   for start, end, symbol in self.nodes)

    def sentences(self):
        """The list of the nodes of all sentences that go on behind the words."""
        if self.many == 0:
            return [self.symbol_node(symbol, True) for symbol in grown(self.tongue)[0]
                    if is_whole_sentence(self.tongue, symbol)]
        return [self.nodes[start, end, symbol] for start, end, symbol in self.nodes
                if start == 0 and end > self.many and is_whole_sentence(self.tongue, symbol)]

    def next_symbols(self):
        """A dict with the symbols of all trees that may begin just behind the last word, those within others too."""
        nodes = from_below(self.edges, self.sentences())
        found = [self.next_nodes[node] for node in nodes if node in self.next_nodes]
        firsts = kept_firsts(self.tongue)
        known = {symbol: True for symbol in found}
        at = 0
        while at < len(found):
            for symbol in firsts.get(found[at], []):
                if symbol not in known:
                    known[symbol] = True
                    found.append(symbol)
            at += 1
        return known


def kept_gaps(tongue):
    """The list of all gaps that something fills, made once."""
    if "filled gaps" not in tongue.kept:
        gaps = {}
        for rule, symbols, whole in grown(tongue)[1]:
            for part, symbol in zip(tongue.own["rules"][rule][4], symbols):
                if part[0] == "fill":
                    gaps[symbol[0], symbol[1]] = True
        tongue.kept["filled gaps"] = list(gaps)
    return tongue.kept["filled gaps"]


def kept_parts(tongue):
    """What may come as a part, made once: a dict from the keys of wants to lists of (rule, part, binds, gap), and one
    from these to the lists of the symbols that are so."""
    if "parts to come" not in tongue.kept:
        by_wants, symbols_of = {}, {}
        for symbol, is_silent in least_trees(tongue):
            for fitting, part, binds in fits_of(tongue, symbol) if not is_silent else []:
                key = (fitting.number, part, binds, fitting.gap_through(symbol))
                if key not in symbols_of:
                    symbols_of[key] = []
                    for wanted in lines_of(tongue)[fitting.number].offers(part, binds):
                        by_wants.setdefault(wanted, []).append(key)
                symbols_of[key].append(symbol)
        tongue.kept["parts to come"] = (by_wants, symbols_of)
    return tongue.kept["parts to come"]


def kept_firsts(tongue):
    """A dict from symbols to the lists of the symbols of what may stand first in their trees, made once."""
    if "firsts" not in tongue.kept:
        firsts = {}
        least = least_trees(tongue)
        for rule, symbols, whole in grown(tongue)[1]:
            for root in lines_of(tongue)[rule].roots:
                missing = root.state.missing
                if all((symbol, part == missing) in least for part, symbol in enumerate(symbols)):
                    known = firsts.setdefault(whole, {})
                    for part in root.state.steps:
                        known[symbols[part]] = True
        tongue.kept["firsts"] = {whole: list(firsts[whole]) for whole in firsts}
    return tongue.kept["firsts"]
