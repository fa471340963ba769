"""What is sound: of features, kinds, seams, stems, endings and rules, each by itself.

Below, features is a dict from the names of features to their values, kinds one from the names of kinds to the kinds.
"""

from speechloom.places import places_of

LETTERS = "abcdefghijklmnopqrstuvwxyz"
MOST_VALUES = 6
MOST_FEATURES_OF_A_KIND = 4
MOST_PARTS = 5
MOST_RANK = 999
MOST_STRAY = 4
MOST_STIR = 99


def is_text(text, most):
    """Whether it has letters a to z alone, and not more than so many."""
    return len(text) <= most and all(letter in LETTERS for letter in text)


def is_name(text):
    """Whether it is a NAME."""
    return text != "" and is_text(text, 8)


def is_rank(number):
    """Whether it may be a rank."""
    return 0 <= number <= MOST_RANK


def are_unlike(things):
    """Whether none of the things, texts or pairs of numbers and texts, stands there twice."""
    return len(set(things)) == len(things)


def is_feature(feature):
    """Whether the feature is sound."""
    name, values, told = feature
    if not is_name(name) or not 1 <= len(values) <= MOST_VALUES:
        return False
    return are_unlike(values) and all(is_name(value) for value in values)


def is_kind(kind, features):
    """Whether the kind is sound."""
    name, own, gap, mute = kind
    if not is_name(name) or len(own) > MOST_FEATURES_OF_A_KIND or not are_unlike(own):
        return False
    return all(feature in features for feature in own) and not (gap and mute)


def is_seam(seam):
    """Whether the seam is sound."""
    return seam[0] != "" and all(is_text(text, 3) for text in seam)


def are_marks(marks, names, features):
    """Whether the marks are of these features alone, each with a value of its own."""
    return all(name in names and marks[name] in features[name] for name in marks)


def is_stem(stem, features, kinds):
    """Whether the stem is sound."""
    text, kind, line, atom, marks, rank = stem
    if not is_name(text) or kind not in kinds or not is_name(line) or not is_rank(rank):
        return False
    name, own, gap, mute = kinds[kind]
    if not (atom == "" if mute else is_name(atom)):
        return False
    return are_marks(marks, own, features)


def is_ending(ending, features):
    """Whether the ending is sound."""
    line, text, marks, rank = ending
    return is_name(line) and is_text(text, 8) and is_rank(rank) and are_marks(marks, features, features)


def is_bundle(bundle, own, features):
    """Whether the bundle has features of its kind's own alone, each with values in the feature's order."""
    for name in bundle:
        if name not in own or bundle[name] == []:
            return False
        if bundle[name] != [value for value in features[name] if value in bundle[name]]:
            return False
    return True


def is_part(part, features, kinds):
    """Whether the part is sound by itself."""
    role, kind, bundle, open_to_gap = part
    if not (role == "-" or is_name(role)) or kind not in kinds:
        return False
    name, own, gap, mute = kinds[kind]
    if mute != (role == "-") or (open_to_gap and role in ("-", "fill")):
        return False
    return is_bundle(bundle, own, features)


def have_roles(parts, kinds):
    """Whether the parts have one head, or one host and one fill with nothing but mute ones beside them."""
    roles = [part[0] for part in parts]
    leading = (roles.count("head"), roles.count("host"), roles.count("fill"))
    if leading == (1, 0, 0):
        return True
    if leading != (0, 1, 1) or roles.count("-") != len(roles) - 2:
        return False
    fill = parts[roles.index("fill")]
    return parts[roles.index("host")][3] and kinds[fill[1]][2]


def is_group(group, owns):
    """Whether the group is sound; owns has the features of each part's kind, and last those of the whole's."""
    if group == [] or not are_unlike(group):
        return False
    return all(-1 <= number < len(owns) - 1 and feature in owns[number] for number, feature in group)


def in_group_with_part(feature, agrees):
    """Whether the whole's feature stands in a group with one of a part."""
    return any((-1, feature) in group and any(pair[0] >= 0 for pair in group) for group in agrees)


def is_order(order, many):
    """Whether the bounds of the order of so many parts are sound."""
    stray, stir, ahead = order
    if not 0 <= stray <= MOST_STRAY or not 0 <= stir <= MOST_STIR:
        return False
    return all(one != other and 0 <= one < many and 0 <= other < many for one, other in ahead)


def is_rule(rule, features, kinds):
    """Whether the rule is sound."""
    name, rank, kind, bundle, parts, agrees, order = rule
    if not is_name(name) or not is_rank(rank) or kind not in kinds or kinds[kind][3]:
        return False
    own = kinds[kind][1]
    if not is_bundle(bundle, own, features) or not 1 <= len(parts) <= MOST_PARTS:
        return False
    if not all(is_part(part, features, kinds) for part in parts) or not have_roles(parts, kinds):
        return False
    owns = [kinds[part[1]][1] for part in parts] + [own]
    if not all(is_group(group, owns) for group in agrees):
        return False
    if not all(in_group_with_part(feature, agrees) or len(bundle.get(feature, [])) == 1 for feature in own):
        return False
    return is_order(order, len(parts)) and places_of(rule) != []
