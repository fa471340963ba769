"""Bundles: for each feature the values that it may have; one that isn't there may have any."""


def joined(one, other):
    """What both bundles let be, as a new bundle, or None where a feature has no value left."""
    both = {}
    for name in names_in_either(one, other):
        values = values_left(one, other, name)
        if not values:
            return None
        both[name] = values
    return both


def clash(one, other):
    """The least name of a feature that has no value left when both are joined, or None."""
    names = names_in_either(one, other)
    return min([name for name in names if not values_left(one, other, name)], default=None)


def joined_all(bundles):
    """All bundles of the list joined from the first on, as a new bundle, or None."""
    whole = {}
    for bundle in bundles:
        whole = joined(whole, bundle)
        if whole is None:
            return None
    return whole


def lets(bundle, marks):
    """Whether each feature of the bundle is in marks, with one of the bundle's values."""
    return all(name in marks and marks[name] in bundle[name] for name in bundle)


def lies_in(one, other):
    """Whether one has each feature of other, with values of other's alone."""
    return all(name in one and within(one[name], other[name]) for name in other)


def choices(features, names, bundle):
    """All tuples with a value for each of the names that the bundle lets, by the values' places."""
    if not within(bundle, names):
        return []
    known = {feature[0]: feature[1] for feature in features}
    rows = [()]
    for name in names:
        # The bundle may have its values in another order: the feature's is the one that counts.
        values = [value for value in known[name] if name not in bundle or value in bundle[name]]
        rows = [(*row, value) for row in rows for value in values]
    return rows


def agreed(groups, rows):
    """Whether in each group of pairs (number of a row, feature) all have one and the same value."""
    return all(len({rows[number][feature] for number, feature in group}) <= 1 for group in groups)


def names_in_either(one, other):
    """The names of one's features in their order, then those of other alone."""
    return [*one, *[name for name in other if name not in one]]


def values_left(one, other, name):
    """A new list of the values of a feature of either that both bundles let be."""
    if name not in one:
        return list(other[name])
    if name not in other:
        return list(one[name])
    return [value for value in one[name] if value in other[name]]


def within(inner, outer):
    """Whether each of inner is in outer."""
    return all(item in outer for item in inner)
