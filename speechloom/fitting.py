"""Fittings: a rule made ready to be joined part by part, each part looked at by itself.

The groups of a rule that share a pair are one bond: all features in it have one value. What a symbol binds as one of
the parts is a tuple with a value for each bond, None for those that it doesn't touch. Parts whose binds don't clash,
with one gap at most, can stand together, and what all of them bind is all that the whole needs to be known.
"""

from speechloom.bundles import lets


class Fitting:
    """One rule, by its number. Fields for the askers: parts, as in the rule; hosting, whether it has a host; bonds,
    how many there are; touched, for each part the bonds that it touches; lasting, those that the whole needs."""

    def __init__(self, number, rule, kind_named):
        self.number = number
        self.parts = rule[4]
        self.hosting = any(part[0] == "host" for part in rule[4])
        groups = merged(rule[5])
        self.bonds = len(groups) + 1 if self.hosting else len(groups)
        self.limits = [limit_of(group, rule[3]) for group in groups]
        self.never = [] in self.limits
        self.names = [kind_named[part[1]][1] for part in rule[4]]
        self.ties = [ties_of(groups, part) for part in range(len(rule[4]))]
        self.touched = [self.bonds_of(part) for part in range(len(rule[4]))]
        self.made = rule[2]
        self.makes = [made_by(groups, name, rule[3]) for name in kind_named[rule[2]][1]]
        self.lasting = [bond for bond, value in self.makes if bond >= 0]

    def bonds_of(self, part):
        """The rising list of the bonds that a part touches."""
        bonds = {bond for name, bond in self.ties[part]}
        # A host and its fill are bound by the gap, behind the groups.
        if self.parts[part][0] in ("host", "fill"):
            bonds.add(self.bonds - 1)
        return sorted(bonds)

    def fit(self, part, symbol):
        """What the symbol binds as this part, or None where it can't be this part."""
        role, kind, bundle, open_to_gap = self.parts[part]
        if self.never or symbol[0] != kind or not self.takes_gap(part, symbol[2]):
            return None
        marks = dict(zip(self.names[part], symbol[1]))
        if not lets(bundle, marks):
            return None
        binds = [None] * self.bonds
        for name, bond in self.ties[part]:
            limit = self.limits[bond]
            if binds[bond] not in (None, marks[name]) or (limit is not None and marks[name] not in limit):
                return None
            binds[bond] = marks[name]
        if role == "host":
            binds[-1] = symbol[2]
        if role == "fill":
            binds[-1] = (symbol[0], symbol[1])
        return tuple(binds)

    def takes_gap(self, part, gap):
        """Whether this part may have this gap, or none."""
        return self.parts[part][0] != "host" if gap == () else self.parts[part][3]

    def gap_through(self, symbol):
        """The gap that the whole has by a part of this symbol: that of a host is filled."""
        return () if self.hosting else symbol[2]

    def whole(self, bound, gap):
        """The symbol of the whole whose parts bind this together."""
        return (self.made, tuple(bound[bond] if bond >= 0 else value for bond, value in self.makes), gap)


def merged(agrees):
    """The groups as lists of pairs, those that share a pair put together."""
    groups = []
    for group in agrees:
        apart = [other for other in groups if not any(pair in other for pair in group)]
        tied = [pair for other in groups if other not in apart for pair in other]
        groups = [*apart, [*tied, *[pair for pair in group if pair not in tied]]]
    return groups


def limit_of(group, bundle):
    """The list of the values that the bundle of the whole lets the group have, None for any."""
    limit = None
    for number, name in group:
        if number == -1 and name in bundle:
            limit = [value for value in bundle[name] if limit is None or value in limit]
    return limit


def ties_of(groups, part):
    """The list of (feature, bond) of one part."""
    return [(name, bond) for bond, group in enumerate(groups) for number, name in group if number == part]


def made_by(groups, name, bundle):
    """Where the whole's value of a feature comes from: (bond, ""), or (-1, value)."""
    for bond, group in enumerate(groups):
        if (-1, name) in group and any(number >= 0 for number, feature in group):
            return (bond, "")
    return (-1, bundle[name][0])


def bound_together(one, other):
    """What both bind, or None where they clash."""
    both = []
    for value, more in zip(one, other):
        if value is None:
            both.append(more)
        elif more is None or more == value:
            both.append(value)
        else:
            return None
    return tuple(both)


def shared(bonds, others):
    """The tuple of the bonds that are among the others."""
    return tuple(bond for bond in bonds if bond in others)


def picked(binds, bonds):
    """The tuple of what is bound at these bonds."""
    return tuple(binds[bond] for bond in bonds)


def placed(row, part, thing):
    """The row, a tuple by parts' numbers, with the thing at this part's."""
    return (*row[:part], thing, *row[part + 1:])


def fittings_of(tongue):
    """The list of the fittings of all rules, made once."""
    if "fittings" not in tongue.kept:
        rules = tongue.own["rules"]
        tongue.kept["fittings"] = [Fitting(number, rule, tongue.kind_named) for number, rule in enumerate(rules)]
    return tongue.kept["fittings"]


def fits_of(tongue, symbol):
    """The list of all (fitting, part, binds) where the symbol may stand, a rule's last part first; worked out once."""
    key = ("fits", symbol)
    if key not in tongue.kept:
        found = []
        for fitting in fittings_of(tongue):
            for part in reversed(range(len(fitting.parts))):
                binds = fitting.fit(part, symbol)
                if binds is not None:
                    found.append((fitting, part, binds))
        tongue.kept[key] = found
    return tongue.kept[key]
