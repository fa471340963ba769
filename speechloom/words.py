"""Words: what stems and endings of one line make together."""

from speechloom.seams import sewn


def values_of(tongue, stem, ending):
    """The values of the word that stem and ending (numbers) make, by its kind's features, or None."""
    stems, endings = tongue.own["stems"], tongue.own["endings"]
    if not (0 <= stem < len(stems) and 0 <= ending < len(endings)):
        return None
    kind, line, marks = stems[stem][1], stems[stem][2], stems[stem][4]
    more = endings[ending][2]
    if line != endings[ending][0] or text_of(tongue, stem, ending) == "":
        return None
    if any(name in marks and marks[name] != more[name] for name in more):
        return None
    both = {**marks, **more}
    names = tongue.kind_named[kind][1]
    if len(both) != len(names) or any(name not in both for name in names):
        return None
    return tuple(both[name] for name in names)


def word_symbol(tongue, stem, ending):
    """The symbol of the word that stem and ending (numbers) make."""
    return (tongue.own["stems"][stem][1], values_of(tongue, stem, ending), ())


def text_of(tongue, stem, ending):
    """What is sewn of a stem and an ending (numbers)."""
    return sewn(tongue.own["seams"], tongue.own["stems"][stem][0], tongue.own["endings"][ending][1])


def forms(tongue):
    """The list of (text, stem, ending) of all words, by stems, then endings."""
    return list(kept_forms(tongue))


def analyses(tongue, word):
    """The list of the words of this text, each as a tree, by stems, then endings."""
    if "trees by text" not in tongue.kept:
        tongue.kept["trees by text"] = trees_by_text(tongue)
    return list(tongue.kept["trees by text"].get(word, []))


def kept_forms(tongue):
    """What forms tells, worked out once."""
    if "forms" not in tongue.kept:
        tongue.kept["forms"] = [
            (text_of(tongue, stem, ending), stem, ending)
            for stem in range(len(tongue.own["stems"]))
            for ending in range(len(tongue.own["endings"]))
            if values_of(tongue, stem, ending) is not None
        ]
    return tongue.kept["forms"]


def trees_by_text(tongue):
    """A dict from the texts of words to the lists of their trees."""
    trees = {}
    for text, stem, ending in kept_forms(tongue):
        trees.setdefault(text, []).append(("word", stem, ending))
    return trees
