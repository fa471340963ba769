"""Written: tongues, meanings and trees as texts."""

from speechloom.places import order_of
from speechloom.trees import told_of
from speechloom.words import text_of


def tongue_text(tongue):
    """The text of the tongue, from which it can be read again."""
    told = tongue.own
    rows = [feature_row(feature) for feature in told["features"]]
    rows.extend([kind_row(kind) for kind in told["kinds"]])
    rows.extend([["seam", *[word_or_none(text) for text in seam]] for seam in told["seams"]])
    rows.extend([stem_row(stem) for stem in told["stems"]])
    rows.extend([ending_row(ending) for ending in told["endings"]])
    for rule in told["rules"]:
        rows.extend(rule_rows(rule))
    rows.append(["start", told["start"]])
    return "\n".join([" ".join(row) for row in rows])


def word_or_none(text):
    """The text, or what tells that there is none."""
    return text if text != "" else "-"


def marks_words(marks):
    """The list of the words of marks."""
    return [f"{name}={marks[name]}" for name in sorted(marks)]


def bundle_words(bundle):
    """The list of the words of a bundle."""
    return [name + "=" + "|".join(bundle[name]) for name in sorted(bundle)]


def feature_row(feature):
    """The words of a feature's row."""
    name, values, is_told = feature
    return ["feature", name, "!" if is_told else ":", *values]


def kind_row(kind):
    """The words of a kind's row."""
    name, features, gap, mute = kind
    sort = "gap" if gap else "mute" if mute else "plain"
    return ["kind", name, sort, *features]


def stem_row(stem):
    """The words of a stem's row."""
    text, kind, line, atom, marks, rank = stem
    return ["stem", text, kind, line, word_or_none(atom), str(rank), *marks_words(marks)]


def ending_row(ending):
    """The words of an ending's row."""
    line, text, marks, rank = ending
    return ["ending", line, word_or_none(text), str(rank), *marks_words(marks)]


def rule_rows(rule):
    """The list of the words of each of a rule's rows."""
    name, rank, kind, bundle, parts, agrees, order = rule
    stray, stir, ahead = order
    rows = [["rule", name, str(rank), kind, str(stray), str(stir), *bundle_words(bundle)]]
    rows.extend([part_row(part) for part in parts])
    rows.extend([["agree", *[pair_word(pair) for pair in group]] for group in agrees])
    rows.extend([["ahead", str(one), str(other)] for one, other in ahead])
    return rows


def part_row(part):
    """The words of a part's row."""
    role, kind, bundle, open_to_gap = part
    return ["part", role, kind, "lets" if open_to_gap else "shut", *bundle_words(bundle)]


def pair_word(pair):
    """The word of a pair of a group."""
    number, feature = pair
    return f"whole.{feature}" if number == -1 else f"{number}.{feature}"


def meaning_text(meaning):
    """A meaning as it is written at a desk."""
    atom, marks, pairs = meaning
    words = ["(", atom, *[f"{name}={value}" for name, value in marks]]
    words.extend([f"{role} {meaning_text(inner)}" for role, inner in pairs])
    return " ".join([*words, ")"])


def tree_text(tongue, tree):
    """A tree as it is written at a desk."""
    return told_of(tree, lambda node, inner: own_text(tongue, node, inner))


def own_text(tongue, tree, inner):
    """The text of a tree over trees of known texts."""
    if tree[0] == "word":
        return text_of(tongue, tree[1], tree[2])
    if tree[0] == "gap":
        return "_"
    return " ".join(["[", tongue.own["rules"][tree[1]][0], *[inner[part] for part in order_of(tree[2])], "]"])
