"""Lines: the orders in which a rule's parts are heard, as steps from state to state.

A rule has a line for the orders in which all parts have words. Where one of them has none, the others are heard in the
orders of the places that are theirs then; there is a line for each part that may be unheard, and each of its places.
Orders that can go on alike meet in one state of their line: so of free orders the states are few.
"""

from speechloom.fitting import bound_together, fittings_of, picked, shared
from speechloom.places import order_of, quiet_at


class State:
    """What was heard of a line so far, as far as it tells what may be heard next.

    Fields for the askers: fitting, of the rule; missing, the part of the line that isn't heard, or -1; steps, a dict
    from each part that may be heard next to (place, state behind it), and, where all are heard, from the missing one;
    wants, the list of (part, bonds by which it is tied to what was heard) of the former ones.
    """

    def __init__(self, fitting, missing, left):
        self.fitting = fitting
        self.missing = missing
        self.steps = {}
        self.wants = []
        asked = [bond for part in left for bond in fitting.touched[part]]
        self.lasts = [bond in asked or bond in fitting.lasting for bond in range(fitting.bonds)]
        self.stages = {}

    def stage(self, bound):
        """The stage of this state where that much is bound.

        What neither a later part nor the whole asks for is forgotten, so that more rows are alike.
        """
        bound = tuple(value if lasts else None for value, lasts in zip(bound, self.lasts))
        if bound not in self.stages:
            self.stages[bound] = Stage(self, bound)
        return self.stages[bound]


class Stage:
    """A state, and what is bound by the parts that were heard; one object for each.

    Field for the askers: wants, the list of the keys (rule, part, bonds, values) of what may be heard next.
    """

    def __init__(self, state, bound):
        self.state = state
        self.bound = bound
        self.wants = [(state.fitting.number, part, bonds, picked(bound, bonds)) for part, bonds in state.wants]
        self.tried = {}

    def behind(self, part, binds):
        """The stage behind this one and a part that binds that, or None where they clash."""
        key = (part, binds)
        if key not in self.tried:
            both = bound_together(self.bound, binds)
            self.tried[key] = None if both is None else self.state.steps[part][1].stage(both)
        return self.tried[key]


class Lines:
    """All lines of one rule. Field for the askers: roots, the list of the stages at which they begin."""

    def __init__(self, tongue, fitting):
        self.fitting = fitting
        # For each part all that tie it to what was heard ahead of it, in whatever order.
        self.asked = [{} for part in fitting.parts]
        self.roots = []
        nothing = (None,) * fitting.bonds
        orders = heard_orders(tongue, fitting)
        for line in orders:
            known = {}
            self.roots.append(self.state_of(line, tuple(sorted(orders[line])), known).stage(nothing))

    def state_of(self, line, orders, known):
        """The state of a line (missing part, its place) in which these rising orders are still to be heard."""
        if orders in known:
            return known[orders]
        missing, gone = line
        left = [part for part in [*orders[0], missing] if part >= 0]
        state = State(self.fitting, missing, left)
        known[orders] = state
        at = len(self.fitting.parts) - len(left)
        for part in orders[0]:
            rest = tuple(order[1:] for order in orders if order[0] == part)
            if rest:
                place = at if missing < 0 or at < gone else at + 1
                state.steps[part] = (place, self.state_of(line, rest, known))
                state.wants.append((part, self.tied_by(part, left)))
        if orders == ((),) and missing >= 0:
            state.steps[missing] = (gone, State(self.fitting, missing, []))
        return state

    def tied_by(self, part, left):
        """The bonds by which a part is tied to those that aren't left."""
        touched = self.fitting.touched
        heard = [bond for other in range(len(touched)) if other not in left for bond in touched[other]]
        bonds = shared(touched[part], heard)
        self.asked[part][bonds] = True
        return bonds

    def offers(self, part, binds):
        """The list of the keys, as of wants, under which a part that binds that is wanted."""
        return [(self.fitting.number, part, bonds, picked(binds, bonds)) for bonds in self.asked[part]]


def lines_of(tongue):
    """The list of the lines of all rules, made once."""
    if "lines" not in tongue.kept:
        tongue.kept["lines"] = [Lines(tongue, fitting) for fitting in fittings_of(tongue)]
    return tongue.kept["lines"]


def heard_orders(tongue, fitting):
    """A dict from the lines (missing part, its place; -1 for none) of a rule to the orders that are heard."""
    heard = {(-1, -1): [order_of(places) for places in tongue.placings[fitting.number]]}
    for part, told in enumerate(fitting.parts):
        # A rule over one part without words is itself without words, and never heard.
        if told[3] and len(fitting.parts) > 1:
            quiet = quiet_at(tongue, fitting.number, part)
            for order in quiet:
                heard.setdefault((part, quiet[order][part]), []).append(order)
    return heard
