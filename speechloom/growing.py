"""What can be said at all: the symbols of all trees, grown from those of words and gaps by the rules.

Each symbol is taken once: it is put into each part that it fits, beside all that were taken ahead of it.
"""

from speechloom.bundles import choices
from speechloom.fitting import bound_together, fits_of, fittings_of, picked, placed, shared
from speechloom.words import kept_forms, word_symbol


def sayable(tongue):
    """The rising list of the symbols of all trees that can stand."""
    return list(grown(tongue)[0])


def instances(tongue):
    """The rising list of all (rule, symbols, symbol): what can stand as the parts of a rule, and the whole's."""
    return list(grown(tongue)[1])


def grown(tongue):
    """The pair of both lists, worked out once."""
    if "grown" not in tongue.kept:
        growth = Growth(tongue, leaf_symbols(tongue))
        growth.grow()
        tongue.kept["grown"] = (sorted(growth.symbols), sorted(growth.rows))
    return tongue.kept["grown"]


class Shelf:
    """The symbols that can be one part of one rule, found by what they bind."""

    def __init__(self):
        self.symbols = {}
        self.sorted_by = {}

    def put(self, symbol, binds):
        """Puts one symbol more onto the shelf."""
        if binds not in self.symbols:
            self.symbols[binds] = []
            for bonds in list(self.sorted_by):
                self.sorted_by[bonds].setdefault(picked(binds, bonds), []).append(binds)
        self.symbols[binds].append(symbol)

    def with_binds(self, bonds, values):
        """The list of what symbols bind here that have these values at these bonds."""
        if bonds not in self.sorted_by:
            rows = {}
            for binds in self.symbols:
                rows.setdefault(picked(binds, bonds), []).append(binds)
            self.sorted_by[bonds] = rows
        return self.sorted_by[bonds].get(values, [])


class Growth:
    """Instances over the symbols that are taken. Fields for the askers: symbols, the list of those that it began with,
    unlike ones, and behind them those that came up; rows, the instances."""

    def __init__(self, tongue, symbols):
        self.tongue = tongue
        self.plans = {}
        self.shelves = {}
        for fitting in fittings_of(tongue):
            for part in range(len(fitting.parts)):
                self.plans[fitting.number, part] = plan_of(fitting, part)
                self.shelves[fitting.number, part, False] = Shelf()
                self.shelves[fitting.number, part, True] = Shelf()
        self.symbols = list(symbols)
        self.known = {symbol: True for symbol in symbols}
        self.rows = []

    def grow(self):
        """Takes each symbol, those that come up on the way too."""
        at = 0
        while at < len(self.symbols):
            self.take(self.symbols[at])
            at += 1

    def take(self, symbol):
        """Joins the symbol with all that were taken ahead of it.

        A rule's last part comes first, and the symbol is put onto a part's shelf only then: so of rows that have the
        symbol in several parts each is made once.
        """
        for fitting, part, binds in fits_of(self.tongue, symbol):
            for gapped in gapped_choices(fitting, part, symbol):
                for bound, row in self.joined_all(fitting, part, binds, gapped):
                    self.tell_all(fitting, placed(row, part, [symbol]), bound, gapped)
            self.shelves[fitting.number, part, symbol[2] != ()].put(symbol, binds)

    def joined_all(self, fitting, part, binds, gapped):
        """The list of all (what is bound, row) of a rule with these binds in this part, and a gap in the part gapped
        alone (-1: in none). A row has for each other part the list of the symbols that may stand there."""
        nothing = ((None,) * fitting.bonds, ((),) * len(fitting.parts))
        lists = []
        for at, steps in enumerate(self.plans[fitting.number, part]):
            first = (binds, nothing[1]) if at == 0 else nothing
            lists.append(self.joined_by(fitting, steps, first, gapped))
            if not lists[-1]:
                return []
        rows = lists[0]
        for more in lists[1:]:
            # Those of two lists of steps share no bond: none of them clash, and no part is in both.
            rows = [beside(one, other) for one in rows for other in more]
        return rows

    def joined_by(self, fitting, steps, first, gapped):
        """The list of (what is bound, row) that the steps make of the first one."""
        rows = [first]
        for part, bonds in steps:
            shelf = self.shelves[fitting.number, part, part == gapped]
            rows = [
                (bound_together(bound, binds), placed(row, part, shelf.symbols[binds]))
                for bound, row in rows
                for binds in shelf.with_binds(bonds, picked(bound, bonds))
            ]
        return rows

    def tell_all(self, fitting, row, bound, gapped):
        """Keeps the instances of a row with a list of symbols for each part, and the wholes' symbols that are new."""
        for symbols in one_of_each(row):
            gap = () if gapped < 0 else fitting.gap_through(symbols[gapped])
            symbol = fitting.whole(bound, gap)
            self.rows.append((fitting.number, symbols, symbol))
            if symbol not in self.known:
                self.known[symbol] = True
                self.symbols.append(symbol)


def leaf_symbols(tongue):
    """The list of the unlike symbols of all words and all gaps."""
    found = {}
    for text, stem, ending in kept_forms(tongue):
        found[word_symbol(tongue, stem, ending)] = True
    for name, features, gap, mute in tongue.own["kinds"]:
        if gap:
            for values in choices(tongue.own["features"], features, {}):
                found[name, values, (name, values)] = True
    return list(found)


def gapped_choices(fitting, part, symbol):
    """The parts that may have the gap (-1: none) where this part has this symbol."""
    if symbol[2] != ():
        return [part]
    if fitting.hosting:
        return [number for number, other in enumerate(fitting.parts) if other[0] == "host"]
    return [-1, *[number for number, other in enumerate(fitting.parts) if other[3] and number != part]]


def plan_of(fitting, part):
    """In which order the others are joined to this part: lists of steps (part, bonds that are bound by then).

    Parts that no bond ties together come in lists of their own, so that the rows of the ones needn't be made again
    for each row of the others.
    """
    rest = [number for number in range(len(fitting.parts)) if number != part]
    plan = [steps_from(fitting, fitting.touched[part], rest)]
    while True:
        taken = [number for steps in plan for number, bonds in steps]
        rest = [number for number in rest if number not in taken]
        if not rest:
            return plan
        plan.append([(rest[0], ()), *steps_from(fitting, fitting.touched[rest[0]], rest[1:])])


def steps_from(fitting, bound, rest):
    """The steps to all of the rest that are tied to what is bound, each time the part that is tied the most."""
    steps = []
    bound = list(bound)
    rest = list(rest)
    while rest:
        best = max(rest, key=lambda number: len(shared(fitting.touched[number], bound)))
        bonds = shared(fitting.touched[best], bound)
        if not bonds:
            return steps
        steps.append((best, bonds))
        bound = bound + [bond for bond in fitting.touched[best] if bond not in bound]
        rest.remove(best)
    return steps


def beside(one, other):
    """Two rows of unlike parts, with what they bind, together."""
    row = tuple(symbols or more for symbols, more in zip(one[1], other[1]))
    return (bound_together(one[0], other[0]), row)


def one_of_each(row):
    """All tuples with one of each list of the row."""
    chosen = [()]
    for things in row:
        chosen = [(*some, thing) for some in chosen for thing in things]
    return chosen
