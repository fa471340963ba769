"""Trees: the small checker, which tells of a tree its symbol, its words, its meaning and its cost.

Nothing here calls itself: a tree may be deeper than Python lets calls be.
"""

from speechloom.bundles import agreed, lets
from speechloom.errors import BadTree
from speechloom.meanings import filled, with_pair
from speechloom.places import order_of, order_without, quiet_at, stir_of
from speechloom.words import text_of, values_of


def symbol_of(tongue, tree):
    """The tree's symbol; refused with BadTree where the tree can't stand."""
    symbol, path = symbol_or_path(tongue, tree)
    if symbol is None:
        raise BadTree(path)
    return symbol


def words_of(tongue, tree):
    """The list of the texts of the tree's words; refused as symbol_of does."""
    symbol_of(tongue, tree)
    return told_of(tree, lambda node, inner: own_words(tongue, node, inner))


def meaning_of(tongue, tree):
    """The tree's meaning; refused as symbol_of does."""
    symbol_of(tongue, tree)
    return told_of(tree, lambda node, inner: own_meaning(tongue, node, inner))


def cost_of(tongue, tree):
    """The ranks of all rules, stems and endings, and the stir of all places; refused as symbol_of does."""
    symbol_of(tongue, tree)
    return sum(own_cost(tongue, node) for node, around, number in all_within(tree))


def is_sentence(tongue, tree):
    """Whether the tree can stand, is of the kind start and has no gap."""
    symbol, path = symbol_or_path(tongue, tree)
    return symbol is not None and is_whole_sentence(tongue, symbol)


def is_whole_sentence(tongue, symbol):
    """Whether trees of this symbol are sentences."""
    return symbol[0] == tongue.own["start"] and symbol[2] == ()


def all_within(tree):
    """The list of all trees within, itself first: (tree, row of the one around or -1, its number there).

    Taken from the last row on, those within come ahead of the one around, by the parts' numbers.
    """
    rows = []
    waiting = [(tree, -1, 0)]
    while waiting:
        row = waiting.pop()
        if row[0][0] == "rule":
            waiting.extend([(inner, len(rows), number) for number, inner in enumerate(row[0][3])])
        rows.append(row)
    return rows


def told_of(tree, tell):
    """What tell(tree, what it told of those within) tells of the whole tree."""
    rows = all_within(tree)
    inner = [[] for row in rows]
    for at in reversed(range(1, len(rows))):
        node, around, number = rows[at]
        inner[around].append(tell(node, inner[at]))
    return tell(tree, inner[0])


def symbol_or_path(tongue, tree):
    """The tree's symbol and (); or None and the path to the first tree that can't stand."""
    rows = all_within(tree)
    inner = [[] for row in rows]
    symbol = None
    for at in reversed(range(len(rows))):
        node, around, number = rows[at]
        symbol = own_symbol(tongue, node, inner[at])
        if symbol is None:
            return (None, path_to(rows, at))
        if around >= 0:
            is_heard = node[0] == "word" or any(heard for below, heard in inner[at])
            inner[around].append((symbol, is_heard))
    return (symbol, ())


def path_to(rows, at):
    """The numbers in trees that lead to the tree of this row."""
    path = []
    while rows[at][1] >= 0:
        path.append(rows[at][2])
        at = rows[at][1]
    return tuple(reversed(path))


def own_symbol(tongue, tree, inner):
    """The symbol of a tree over trees of known (symbol, whether they have words), or None."""
    if tree[0] == "word":
        values = values_of(tongue, tree[1], tree[2])
        return None if values is None else (tongue.own["stems"][tree[1]][1], values, ())
    if tree[0] == "gap":
        return (tree[1], tree[2], (tree[1], tree[2])) if is_gap(tongue, tree[1], tree[2]) else None
    if not 0 <= tree[1] < len(tongue.own["rules"]) or len(inner) != len(tongue.own["rules"][tree[1]][4]):
        return None
    unheard = [part for part, (symbol, heard) in enumerate(inner) if not heard]
    if not is_placed(tongue, tree[1], tree[2], unheard):
        return None
    return whole_of(tongue, tongue.own["rules"][tree[1]], [symbol for symbol, heard in inner])


def is_gap(tongue, kind, values):
    """Whether there is a gap of this kind with these values."""
    if kind not in tongue.kind_named or not tongue.kind_named[kind][2]:
        return False
    names = tongue.kind_named[kind][1]
    if len(names) != len(values):
        return False
    return all(value in tongue.feature_named[name][1] for name, value in zip(names, values))


def is_placed(tongue, number, places, unheard):
    """Whether a rule's parts may stand at these places, the unheard ones at the one place that is theirs."""
    if places not in tongue.placings[number]:
        return False
    return all(quiet_at(tongue, number, part)[order_without(places, part)] == places for part in unheard)


def whole_of(tongue, rule, symbols):
    """The symbol of a rule's whole over parts of these symbols, or None where they can't stand so."""
    parts, agrees, bundle = rule[4], rule[5], rule[3]
    if any(symbol[0] != part[1] for symbol, part in zip(symbols, parts)):
        return None
    rows = [marks_of(tongue, symbol[0], symbol[1]) for symbol in symbols]
    if not all(lets(part[2], marks) for part, marks in zip(parts, rows)):
        return None
    names = tongue.kind_named[rule[2]][1]
    marks = {name: whole_value(name, agrees, bundle, rows) for name in names}
    gap = whole_gap(parts, symbols)
    if gap is None or not lets(bundle, marks) or not agreed(agrees, [*rows, marks]):
        return None
    return (rule[2], tuple(marks[name] for name in names), gap)


def marks_of(tongue, kind, values):
    """A symbol's values by the names of its kind's features."""
    return dict(zip(tongue.kind_named[kind][1], values))


def whole_value(name, agrees, bundle, rows):
    """The whole's value of this feature: that of a part in a group with it, else the one of the bundle."""
    for group in agrees:
        if (-1, name) in group:
            for number, feature in group:
                if number >= 0:
                    return rows[number][feature]
    return bundle[name][0]


def whole_gap(parts, symbols):
    """The gap of a whole over parts of these symbols, () for none; or None where the gaps can't stand so."""
    gaps = [symbol[2] for symbol in symbols]
    roles = [part[0] for part in parts]
    gapped = [number for number, gap in enumerate(gaps) if gap != ()]
    if any(not parts[number][3] for number in gapped) or len(gapped) > 1:
        return None
    if "host" in roles:
        fill = symbols[roles.index("fill")]
        return () if gaps[roles.index("host")] == (fill[0], fill[1]) else None
    return gaps[gapped[0]] if gapped else ()


def own_words(tongue, tree, inner):
    """The words of a tree over trees of known words."""
    if tree[0] == "word":
        return [text_of(tongue, tree[1], tree[2])]
    if tree[0] == "gap":
        return []
    return [word for part in order_of(tree[2]) for word in inner[part]]


def own_meaning(tongue, tree, inner):
    """The meaning of a tree over trees of known meanings."""
    if tree[0] == "word":
        return word_meaning(tongue, tree[1], tree[2])
    if tree[0] == "gap":
        return ("", (), ())
    return rule_meaning(tongue.own["rules"][tree[1]], inner)


def word_meaning(tongue, stem, ending):
    """The stem's atom, with the marks that are told."""
    kind, atom = tongue.own["stems"][stem][1], tongue.own["stems"][stem][3]
    marks = marks_of(tongue, kind, values_of(tongue, stem, ending))
    return (atom, tuple(sorted((name, marks[name]) for name in marks if tongue.feature_named[name][2])), ())


def rule_meaning(rule, inner):
    """The meaning of a rule's whole over parts of these meanings; those of mute parts aren't looked at."""
    roles = [part[0] for part in rule[4]]
    if "host" in roles:
        return filled(inner[roles.index("host")], inner[roles.index("fill")])
    whole = inner[roles.index("head")]
    for role, meaning in zip(roles, inner):
        if role not in ("head", "-"):
            whole = with_pair(whole, role, meaning)
    return whole


def own_cost(tongue, tree):
    """What a tree costs by itself, without those within."""
    if tree[0] == "word":
        return tongue.own["stems"][tree[1]][5] + tongue.own["endings"][tree[2]][3]
    if tree[0] == "gap":
        return 0
    rule = tongue.own["rules"][tree[1]]
    return rule[1] + stir_of(rule, tree[2])
