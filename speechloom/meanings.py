"""Meanings: tuples (atom, marks, pairs), where a hole stands for what a gap leaves out.

Nothing here calls itself: a meaning may be deeper than Python lets calls be.
"""


def nodes_of(meaning):
    """How many meanings it has within, itself too."""
    return len(all_within(meaning))


def has_hole(meaning):
    """Whether it is a hole, or has one within."""
    return any(is_hole(inner) for inner, around, number in all_within(meaning))


def with_pair(meaning, role, inner):
    """The meaning with one pair more."""
    atom, marks, pairs = meaning
    return (atom, marks, rising((*pairs, (role, inner))))


def filled(meaning, filler):
    """The meaning with the filler, which has no hole, in the place of its one hole."""
    rows = all_within(meaning)
    at = [is_hole(inner) for inner, around, number in rows].index(True)
    hole, around, number = rows[at]
    whole = (filler[0], filler[1], rising((*hole[2], *filler[2])))
    while around >= 0:
        outer, above, place = rows[around]
        whole = with_changed_pair(outer, number, whole)
        around, number = above, place
    return whole


def is_hole(meaning):
    """Whether the meaning itself is a hole."""
    return meaning[0] == "" and meaning[1] == ()


def rising(pairs):
    """The pairs as a rising tuple."""
    return tuple(sorted(pairs))


def with_changed_pair(meaning, number, inner):
    """The meaning with another inner one in the pair of this number."""
    atom, marks, pairs = meaning
    role = pairs[number][0]
    return (atom, marks, rising((*pairs[:number], (role, inner), *pairs[number + 1:])))


def all_within(meaning):
    """The list of all meanings within, itself first: (meaning, row of the one around or -1, number of its pair)."""
    rows = [(meaning, -1, 0)]
    at = 0
    while at < len(rows):
        pairs = rows[at][0][2]
        rows.extend([(pair[1], at, number) for number, pair in enumerate(pairs)])
        at += 1
    return rows
