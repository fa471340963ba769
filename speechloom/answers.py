"""Answers: what a desk tells of each ask, as a text. Each teller takes the list of the tongues that the ask names, and
what stands behind them: words, a meaning or a number."""

from speechloom.coming import coming, fewest_more
from speechloom.looks import idle_endings, idle_stems, never_rules
from speechloom.measures import two_meanings, two_sayings
from speechloom.reading import count_readings, meanings_for, readings
from speechloom.saying import best_saying, sayings
from speechloom.trees import cost_of
from speechloom.turning import turned
from speechloom.written import meaning_text, tree_text


def in_a_row(texts, between):
    """The texts with that between them, or what tells that there are none."""
    return between.join(texts) if texts else "-"


def told_words(words):
    """Words, names or numbers as one text; words may be None."""
    return in_a_row(words or [], " ")


def told_several(texts):
    """The texts of several readings, meanings or sayings as one."""
    return in_a_row(texts, " ; ")


def tell_read(tongues, words):
    """All readings, with their costs."""
    tongue = tongues[0]
    return told_several([f"{cost_of(tongue, tree)} {tree_text(tongue, tree)}" for tree in readings(tongue, words)])


def tell_means(tongues, words):
    """All meanings."""
    return told_several([meaning_text(meaning) for meaning in meanings_for(tongues[0], words)])


def tell_count(tongues, words):
    """How many readings there are."""
    return str(count_readings(tongues[0], words))


def tell_say(tongues, meaning):
    """All sayings, with their costs."""
    return told_several([told_words([str(cost), *words]) for cost, words in sayings(tongues[0], meaning)])


def tell_best(tongues, meaning):
    """The best saying."""
    return told_words(best_saying(tongues[0], meaning))


def tell_next(tongues, words):
    """What may come next."""
    nexts, is_whole = coming(tongues[0], words)
    return told_words([*nexts, "."] if is_whole else nexts)


def tell_more(tongues, words):
    """How many words are wanting at least."""
    fewest = fewest_more(tongues[0], words)
    return "-" if fewest is None else str(fewest[0])


def tell_turn(tongues, words):
    """All sayings in the second tongue of what the words mean in the first."""
    found = turned(tongues[0], tongues[1], words)
    return told_several([told_words(row) for meaning, said in found for cost, row in said])


def tell_never(tongues, nothing):
    """The rules that serve never."""
    rules = tongues[0].rules()
    return told_words([rules[number][0] for number in never_rules(tongues[0])])


def tell_idle(tongues, nothing):
    """The stems and the endings that serve never."""
    stems = [str(number) for number in idle_stems(tongues[0])]
    endings = [str(number) for number in idle_endings(tongues[0])]
    return told_words([*stems, "/", *endings])


def tell_twice(tongues, most):
    """The first row of two meanings."""
    found = two_meanings(tongues[0], most)
    return told_words(None if found is None else found[0])


def tell_alike(tongues, most):
    """The first meaning of two sayings."""
    found = two_sayings(tongues[0], most)
    return "-" if found is None else meaning_text(found[0])


TELLERS = {
    "read": tell_read, "means": tell_means, "count": tell_count, "say": tell_say, "best": tell_best, "next": tell_next,
    "more": tell_more, "turn": tell_turn, "never": tell_never, "idle": tell_idle, "twice": tell_twice,
    "alike": tell_alike,
}


def answer_to(name, tongues, thing):
    """The answer to an ask of this name."""
    teller = TELLERS[name]
    return teller(tongues, thing)
