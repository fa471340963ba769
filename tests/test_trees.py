"""[11] and [12]: symbol_of, words_of, meaning_of, cost_of, is_sentence."""

import itertools
import unittest

from helper import Plain, one_rule, small, tongues
from speechloom import trees as trees_file
from speechloom.errors import BadTree, SpeechError
from speechloom.tongues import Tongue
from speechloom.trees import cost_of, is_sentence, meaning_of, symbol_of, words_of

ASKS = (symbol_of, words_of, meaning_of, cost_of)


def path(tongue, tree):
    """The path of the refusal, the same by whichever ask; None where there is none."""
    found = []
    for ask in ASKS:
        try:
            ask(tongue, tree)
            found.append(None)
        except BadTree as bad:
            found.append(bad.path)
    assert len(set(found)) == 1, found
    return found[0]


def noun(det, noun_tree):
    return ("rule", 1, (0, 1), (det, noun_tree))


# Words and wholes of the small tongue.
THE_SG, THE_PL, A = ("word", 3, 3), ("word", 3, 4), ("word", 4, 2)
CAT, CATS, DOG, CITIES = ("word", 0, 0), ("word", 0, 1), ("word", 2, 0), ("word", 1, 1)
I, NOW = ("word", 5, 2), ("word", 8, 2)
SEES, SEE_I, SEE_PL, SAW_I = ("word", 6, 5), ("word", 6, 6), ("word", 6, 7), ("word", 7, 8)
A_DOG, THE_CATS = noun(A, DOG), noun(THE_PL, CATS)
GAP = ("gap", "np", ("sg", "three"))


def verb(head, to):
    return ("rule", 2, (0, 1), (head, to))


def clause(by, head):
    return ("rule", 0, (0, 1), (by, head))


def when(head, places=(0, 1)):
    return ("rule", 4, places, (head, NOW))


def front(fill, host):
    return ("rule", 3, (0, 1), (fill, host))


CATS_SEE_A_DOG = clause(THE_CATS, verb(SEE_PL, A_DOG))
A_DOG_CATS_SEE = front(A_DOG, clause(THE_CATS, verb(SEE_PL, GAP)))


class Words(unittest.TestCase):
    """Trees that are a word or a gap."""

    def setUp(self):
        self.tongue = Tongue(small())

    def test_words(self):
        self.assertEqual(symbol_of(self.tongue, CATS), ("n", ("pl",), ()))
        self.assertEqual(symbol_of(self.tongue, I), ("np", ("sg", "one"), ()))
        self.assertEqual(symbol_of(self.tongue, NOW), ("adv", (), ()))
        self.assertEqual(symbol_of(self.tongue, THE_PL), ("det", ("pl",), ()))

    def test_words_that_are_none(self):
        for stem, ending in ((0, 2), (0, 5), (4, 3), (-1, 0), (9, 0), (0, -1), (0, 11), (-9, -11), (0, 10 ** 30)):
            self.assertEqual(path(self.tongue, ("word", stem, ending)), (), (stem, ending))

    def test_gaps(self):
        for values in itertools.product(("sg", "pl"), ("one", "three")):
            self.assertEqual(symbol_of(self.tongue, ("gap", "np", values)), ("np", values, ("np", values)))

    def test_gaps_that_are_none(self):
        for kind, values in (("np", ("sg",)), ("np", ()), ("np", ("sg", "one", "now")), ("np", ("one", "sg")),
                             ("np", ("sg", "two")), ("np", ("sg", "now")), ("n", ("sg",)), ("det", ("sg",)),
                             ("s", ("now",)), ("none", ()), ("", ()), ("num", ("sg",))):
            self.assertEqual(path(self.tongue, ("gap", kind, values)), (), (kind, values))

    def test_a_gap_of_a_kind_without_features(self):
        rule = ("r", 0, "s", {}, [("head", "g", {}, True)], [], (0, 0, []))
        tongue = Tongue(one_rule(rule, [("s", [], False, False), ("g", [], True, False)]))
        self.assertEqual(symbol_of(tongue, ("gap", "g", ())), ("g", (), ("g", ())))
        self.assertEqual(symbol_of(tongue, ("rule", 0, (0,), (("gap", "g", ()),))), ("s", (), ("g", ())))
        self.assertEqual(path(tongue, ("gap", "g", ("a",))), ())

    def test_what_they_tell(self):
        self.assertEqual(words_of(self.tongue, CITIES), ["cities"])
        self.assertEqual(words_of(self.tongue, GAP), [])
        self.assertEqual(meaning_of(self.tongue, CITIES), ("town", (("num", "pl"),), ()))
        self.assertEqual(meaning_of(self.tongue, GAP), ("", (), ()))
        self.assertEqual(cost_of(self.tongue, CITIES), 12)
        self.assertEqual(cost_of(self.tongue, GAP), 0)

    def test_marks_of_words_that_are_told_rising(self):
        # per isn't told; the kind has num, per, tense.
        self.assertEqual(meaning_of(self.tongue, SEES), ("see", (("num", "sg"), ("tense", "now")), ()))
        told = small()
        told["features"] = [(name, values, not flag) for name, values, flag in told["features"]]
        self.assertEqual(meaning_of(Tongue(told), SEES), ("see", (("per", "three"),), ()))
        told["features"] = [(name, values, True) for name, values, _ in told["features"]]
        told["kinds"][3] = ("v", ["tense", "per", "num"], False, False)
        self.assertEqual(meaning_of(Tongue(told), SEES)[1], (("num", "sg"), ("per", "three"), ("tense", "now")))


class Wholes(unittest.TestCase):
    """Trees of the small tongue's rules."""

    def setUp(self):
        self.tongue = Tongue(small())

    def test_symbols(self):
        self.assertEqual(symbol_of(self.tongue, A_DOG), ("np", ("sg", "three"), ()))
        # By the kind's order of features: per, num, tense.
        self.assertEqual(symbol_of(self.tongue, verb(SEE_PL, A_DOG)), ("vp", ("three", "pl", "now"), ()))
        self.assertEqual(symbol_of(self.tongue, CATS_SEE_A_DOG), ("s", ("now",), ()))
        self.assertEqual(symbol_of(self.tongue, clause(I, verb(SAW_I, A_DOG))), ("s", ("past",), ()))

    def test_symbols_with_a_gap(self):
        gap = ("np", ("sg", "three"))
        self.assertEqual(symbol_of(self.tongue, verb(SEE_PL, GAP)), ("vp", ("three", "pl", "now"), gap))
        self.assertEqual(symbol_of(self.tongue, when(verb(SEE_PL, GAP))), ("vp", ("three", "pl", "now"), gap))
        self.assertEqual(symbol_of(self.tongue, clause(THE_CATS, verb(SEE_PL, GAP))), ("s", ("now",), gap))
        self.assertEqual(symbol_of(self.tongue, A_DOG_CATS_SEE), ("s", ("now",), ()))

    def test_words(self):
        self.assertEqual(words_of(self.tongue, CATS_SEE_A_DOG), ["the", "cats", "see", "a", "dog"])
        self.assertEqual(words_of(self.tongue, A_DOG_CATS_SEE), ["a", "dog", "the", "cats", "see"])
        whole = clause(I, when(verb(SAW_I, noun(THE_PL, CITIES))))
        self.assertEqual(words_of(self.tongue, whole), ["i", "saw", "the", "cities", "now"])

    def test_words_by_places(self):
        whole = clause(I, when(when(verb(SAW_I, A_DOG), (1, 0)), (0, 1)))
        self.assertEqual(words_of(self.tongue, whole), ["i", "now", "saw", "a", "dog", "now"])

    def test_meanings(self):
        want = ("see", (("num", "pl"), ("tense", "now")),
                (("by", ("cat", (("num", "pl"),), ())), ("to", ("dog", (("num", "sg"),), ()))))
        self.assertEqual(meaning_of(self.tongue, CATS_SEE_A_DOG), want)
        self.assertEqual(meaning_of(self.tongue, A_DOG_CATS_SEE), want)
        hole = ("see", (("num", "pl"), ("tense", "now")), (("to", ("", (), ())),))
        self.assertEqual(meaning_of(self.tongue, verb(SEE_PL, GAP)), hole)

    def test_mute_parts_mean_nothing(self):
        self.assertEqual(meaning_of(self.tongue, A_DOG), meaning_of(self.tongue, noun(THE_SG, DOG)))
        self.assertEqual(meaning_of(self.tongue, A_DOG), meaning_of(self.tongue, DOG))

    def test_two_parts_of_one_role(self):
        whole = when(when(verb(SEE_PL, A_DOG)))
        now = ("at", ("now", (), ()))
        self.assertEqual(meaning_of(self.tongue, whole)[2], (now, now, ("to", ("dog", (("num", "sg"),), ()))))

    def test_costs(self):
        # dog 0, cat 1 with s 10, see 5, clause 20, front 7.
        self.assertEqual(cost_of(self.tongue, A_DOG), 0)
        self.assertEqual(cost_of(self.tongue, CATS_SEE_A_DOG), 36)
        self.assertEqual(cost_of(self.tongue, A_DOG_CATS_SEE), 43)
        # now 4, at its place or, by a stir of 3, one and one away.
        self.assertEqual(cost_of(self.tongue, clause(THE_CATS, when(verb(SEE_PL, A_DOG)))), 40)
        self.assertEqual(cost_of(self.tongue, clause(THE_CATS, when(verb(SEE_PL, A_DOG), (1, 0)))), 46)

    def test_sentences(self):
        self.assertIs(is_sentence(self.tongue, CATS_SEE_A_DOG), True)
        self.assertIs(is_sentence(self.tongue, A_DOG_CATS_SEE), True)

    def test_no_sentences(self):
        self.assertIs(is_sentence(self.tongue, A_DOG), False)
        self.assertIs(is_sentence(self.tongue, DOG), False)
        self.assertIs(is_sentence(self.tongue, clause(THE_CATS, verb(SEE_PL, GAP))), False)
        self.assertIs(is_sentence(self.tongue, clause(THE_CATS, verb(SEES, A_DOG))), False)
        self.assertIs(is_sentence(self.tongue, ("word", 99, -99)), False)
        self.assertIs(is_sentence(self.tongue, ("gap", "none", ())), False)

    def test_another_start(self):
        tongue = Tongue({**small(), "start": "np"})
        self.assertIs(is_sentence(tongue, A_DOG), True)
        self.assertIs(is_sentence(tongue, I), True)
        self.assertIs(is_sentence(tongue, GAP), False)
        self.assertIs(is_sentence(tongue, CATS_SEE_A_DOG), False)

    def test_another_kind_than_the_parts(self):
        self.assertEqual(path(self.tongue, clause(DOG, verb(SEES, A_DOG))), ())
        self.assertEqual(path(self.tongue, clause(THE_CATS, SEE_PL)), ())
        self.assertEqual(path(self.tongue, noun(DOG, DOG)), ())
        self.assertEqual(path(self.tongue, ("rule", 1, (0, 1), (DOG, A))), ())

    def test_groups_that_do_not_agree(self):
        self.assertEqual(path(self.tongue, noun(A, CATS)), ())
        self.assertEqual(path(self.tongue, noun(THE_PL, DOG)), ())
        self.assertEqual(path(self.tongue, clause(THE_CATS, verb(SEES, A_DOG))), ())
        self.assertEqual(path(self.tongue, clause(A_DOG, verb(SEE_I, A_DOG))), ())

    def test_rules_that_are_none(self):
        for number in (5, -1, -5, 99, 10 ** 30):
            self.assertEqual(path(self.tongue, ("rule", number, (0, 1), (A, DOG))), (), number)
            self.assertEqual(path(self.tongue, ("rule", number, (0,), (A,))), (), number)

    def test_rules_counted_from_the_end_are_none(self):
        for whole in (CATS_SEE_A_DOG, A_DOG_CATS_SEE, A_DOG, verb(SEE_PL, A_DOG), when(verb(SEE_PL, A_DOG))):
            self.assertIsNone(path(self.tongue, whole))
            self.assertEqual(path(self.tongue, ("rule", whole[1] - 5, *whole[2:])), ())

    def test_another_number_of_trees(self):
        for trees in ((), (A,), (A, DOG, DOG)):
            self.assertEqual(path(self.tongue, ("rule", 1, (0, 1), trees)), (), trees)
        self.assertEqual(path(self.tongue, ("rule", 1, (0, 1, 2), (A, DOG, DOG))), ())

    def test_places_that_are_none_of_the_rules(self):
        for places in ((), (0,), (1, 0), (0, 0), (0, 1, 2), (0, 2), (-1, 0), (1, 2)):
            self.assertEqual(path(self.tongue, ("rule", 1, places, (A, DOG))), (), places)
        self.assertIsNone(path(self.tongue, when(verb(SEE_PL, A_DOG), (1, 0))))
        self.assertEqual(path(self.tongue, when(verb(SEE_PL, A_DOG), (0, 0))), ())

    def test_a_gap_where_the_part_does_not_let(self):
        self.assertEqual(path(self.tongue, clause(GAP, verb(SEES, A_DOG))), ())
        self.assertEqual(path(self.tongue, front(GAP, clause(THE_CATS, verb(SEE_PL, GAP)))), ())

    def test_a_host_whose_gap_is_not_the_fill(self):
        self.assertEqual(path(self.tongue, front(A_DOG, CATS_SEE_A_DOG)), ())
        self.assertEqual(path(self.tongue, front(THE_CATS, clause(THE_CATS, verb(SEE_PL, GAP)))), ())
        self.assertEqual(path(self.tongue, front(I, clause(THE_CATS, verb(SEE_PL, GAP)))), ())
        other = ("gap", "np", ("sg", "one"))
        self.assertIsNone(path(self.tongue, front(I, clause(THE_CATS, verb(SEE_PL, other)))))

    def test_two_fills(self):
        self.assertEqual(path(self.tongue, front(A_DOG, A_DOG_CATS_SEE)), ())


class Paths(unittest.TestCase):
    def setUp(self):
        self.tongue = Tongue(small())

    def test_the_whole(self):
        self.assertEqual(path(self.tongue, noun(A, CATS)), ())

    def test_one_within(self):
        self.assertEqual(path(self.tongue, clause(THE_CATS, verb(SEE_PL, noun(A, CATS)))), (1, 1))
        self.assertEqual(path(self.tongue, clause(THE_CATS, verb(SEE_PL, noun(A, ("word", 2, 5))))), (1, 1, 1))
        self.assertEqual(path(self.tongue, clause(noun(A, CATS), verb(SEE_PL, A_DOG))), (0,))

    def test_those_within_ahead_of_the_one_around(self):
        self.assertEqual(path(self.tongue, ("rule", 99, (5,), (A, DOG, noun(A, CATS)))), (2,))
        self.assertEqual(path(self.tongue, clause(noun(A, ("word", -1, 0)), verb(SEE_PL, A_DOG))), (0, 1))
        self.assertEqual(path(self.tongue, ("rule", 1, (1, 0), (("gap", "x", ()), DOG))), (0,))

    def test_the_first_of_several(self):
        bad, worse = noun(A, CATS), noun(A, ("word", 2, 5))
        self.assertEqual(path(self.tongue, clause(bad, verb(SEE_PL, worse))), (0,))
        self.assertEqual(path(self.tongue, clause(THE_CATS, verb(("word", 77, 0), worse))), (1, 0))
        self.assertEqual(path(self.tongue, clause(THE_CATS, verb(worse, ("word", 77, 0)))), (1, 0, 1))
        self.assertEqual(path(self.tongue, clause(worse, bad)), (0, 1))

    def test_numbers_in_trees_not_places(self):
        bad = verb(SEE_PL, noun(A, CATS))
        self.assertEqual(path(self.tongue, clause(I, when(bad, (1, 0)))), (1, 0, 1))
        self.assertEqual(path(self.tongue, clause(I, ("rule", 4, (1, 0), (verb(SEE_I, A_DOG), ("word", 8, 0))))), (1, 1))

    def test_more_trees_than_parts(self):
        self.assertEqual(path(self.tongue, ("rule", 1, (0, 1), (A, DOG, ("word", -1, -1)))), (2,))

    def test_the_refusal(self):
        for ask in ASKS:
            with self.assertRaises(BadTree) as caught:
                ask(self.tongue, clause(noun(A, CATS), DOG))
            self.assertEqual(caught.exception.path, (0,))
            self.assertIs(type(caught.exception.path), tuple)
            self.assertIsInstance(caught.exception, SpeechError)


FEATURES = [("num", ["sg", "pl"], True), ("gen", ["m", "f"], True)]
KINDS = [("s", ["num"], False, False), ("n", ["num", "gen"], True, False), ("m", [], False, True)]


def stem(text, num, gen):
    return (text, "n", "x", text, {"num": num, "gen": gen}, 0)


STEMS = [stem("a", "sg", "m"), stem("b", "sg", "f"), stem("c", "pl", "m"), stem("d", "pl", "f"),
         ("e", "m", "x", "", {}, 0)]


def word(at):
    return ("word", at, 0)


class Rules(unittest.TestCase):
    """Tongues of one rule, of which one thing is looked at."""

    def told(self, bundle, parts, agrees, order=(0, 0, [])):
        return Tongue(one_rule(("r", 0, "s", bundle, parts, agrees, order), KINDS, STEMS, FEATURES))

    def values(self, tongue, *trees):
        """The whole's values over these trees, or None."""
        tree = ("rule", 0, tuple(range(len(trees))), trees)
        return symbol_of(tongue, tree)[1] if path(tongue, tree) is None else None

    def test_a_part_that_its_bundle_does_not_let(self):
        parts = [("head", "n", {"num": ["sg"], "gen": ["m", "f"]}, False)]
        tongue = self.told({}, parts, [[(-1, "num"), (0, "num")]])
        self.assertEqual([self.values(tongue, word(at)) for at in range(4)], [("sg",), ("sg",), None, None])

    def test_values_of_the_whole_that_its_bundle_does_not_let(self):
        tongue = self.told({"num": ["pl"]}, [("head", "n", {}, False)], [[(-1, "num"), (0, "num")]])
        self.assertEqual([self.values(tongue, word(at)) for at in range(4)], [None, None, ("pl",), ("pl",)])

    def test_the_one_value_of_the_bundle(self):
        tongue = self.told({"num": ["pl"]}, [("head", "n", {}, False)], [])
        self.assertEqual([self.values(tongue, word(at)) for at in range(4)], [("pl",)] * 4)

    def test_a_value_of_another_feature_is_that_text(self):
        tongue = self.told({}, [("head", "n", {}, False)], [[(0, "gen"), (-1, "num")]])
        self.assertEqual([self.values(tongue, word(at)) for at in range(4)], [("m",), ("f",), ("m",), ("f",)])

    def test_a_value_of_another_feature_that_the_bundle_does_not_let(self):
        tongue = self.told({"num": ["sg", "pl"]}, [("head", "n", {}, False)], [[(0, "gen"), (-1, "num")]])
        self.assertEqual([self.values(tongue, word(at)) for at in range(4)], [None] * 4)

    def test_a_group_without_the_whole(self):
        parts = [("head", "n", {}, False), ("by", "n", {}, False)]
        tongue = self.told({"num": ["sg"]}, parts, [[(0, "gen"), (1, "gen")]])
        got = [self.values(tongue, word(one), word(other)) is not None
               for one, other in itertools.product(range(4), repeat=2)]
        self.assertEqual(got, [one % 2 == other % 2 for one, other in itertools.product(range(4), repeat=2)])

    def test_two_groups_with_one_feature_of_the_whole(self):
        parts = [("head", "n", {}, False), ("by", "n", {}, False)]
        tongue = self.told({}, parts, [[(-1, "num"), (0, "num")], [(1, "num"), (-1, "num")]])
        self.assertEqual(self.values(tongue, word(2), word(3)), ("pl",))
        self.assertIsNone(self.values(tongue, word(0), word(2)))

    def test_two_features_of_the_whole_in_one_group(self):
        kinds = [("s", ["gen", "num"], False, False), *KINDS[1:]]
        parts = [("head", "n", {}, False)]
        for bundle, agrees, want in (
                ({"gen": ["m"]}, [[(-1, "num"), (0, "gen")], [(-1, "gen"), (-1, "num")]], [("m", "m"), None]),
                ({"gen": ["m"], "num": ["sg"]}, [[(-1, "gen"), (-1, "num")]], [None, None]),
                ({"gen": ["f"]}, [[(-1, "num"), (0, "gen"), (-1, "gen")]], [None, ("f", "f")])):
            rule = ("r", 0, "s", bundle, parts, agrees, (0, 0, []))
            tongue = Tongue(one_rule(rule, kinds, STEMS, FEATURES))
            self.assertEqual([self.values(tongue, word(at)) for at in range(2)], want)

    def test_two_gaps(self):
        parts = [("head", "n", {}, True), ("by", "n", {}, True)]
        tongue = self.told({"num": ["sg"]}, parts, [])
        gap = ("gap", "n", ("sg", "m"))
        self.assertEqual(path(tongue, ("rule", 0, (0, 1), (gap, gap))), ())
        self.assertIsNone(path(tongue, ("rule", 0, (0, 1), (gap, word(0)))))
        self.assertIsNone(path(tongue, ("rule", 0, (0, 1), (word(0), gap))))

    def test_a_gap_beside_agreeing_parts_has_values_too(self):
        parts = [("head", "n", {}, True), ("by", "n", {"gen": ["f"]}, True)]
        tongue = self.told({}, parts, [[(-1, "num"), (0, "num"), (1, "num")]])
        self.assertEqual(symbol_of(tongue, ("rule", 0, (0, 1), (word(2), ("gap", "n", ("pl", "f"))))),
                         ("s", ("pl",), ("n", ("pl", "f"))))
        self.assertEqual(path(tongue, ("rule", 0, (0, 1), (word(2), ("gap", "n", ("sg", "f"))))), ())
        self.assertEqual(path(tongue, ("rule", 0, (0, 1), (word(2), ("gap", "n", ("pl", "m"))))), ())

    def test_a_host_with_mute_parts(self):
        parts = [("-", "m", {}, False), ("host", "n", {}, True), ("fill", "n", {}, False)]
        tongue = self.told({"num": ["sg"]}, parts, [])
        tree = ("rule", 0, (0, 1, 2), (word(4), ("gap", "n", ("sg", "f")), word(1)))
        self.assertEqual(symbol_of(tongue, tree), ("s", ("sg",), ()))
        self.assertEqual(words_of(tongue, tree), ["e", "b"])
        self.assertEqual(meaning_of(tongue, tree), ("b", (("gen", "f"), ("num", "sg")), ()))
        self.assertEqual(path(tongue, ("rule", 0, (0, 1, 2), (word(4), ("gap", "n", ("sg", "f")), word(0)))), ())


class Unheard(unittest.TestCase):
    """Places where one of the trees has no words."""

    def standing(self, many, order, unheard, gap_tree=("gap", "n", ())):
        """The places at which the rule stands over words, but for one gap."""
        parts = [("head", "n", {}, True), *[("by", "n", {}, True)] * (many - 1)]
        kinds = [("s", [], False, False), ("n", [], True, False)]
        rule = ("r", 0, "s", {}, parts, [], order)
        tongue = Tongue(one_rule(rule, kinds, [("a", "n", "x", "a", {}, 0)]))
        trees = tuple(gap_tree if at == unheard else ("word", 0, 0) for at in range(many))
        return [places for places in itertools.permutations(range(many))
                if path(tongue, ("rule", 0, places, trees)) is None]

    def test_the_one_of_least_stir(self):
        self.assertEqual(self.standing(2, (1, 1, []), 0), [(0, 1)])
        self.assertEqual(self.standing(2, (1, 1, []), 1), [(0, 1)])
        # The others as 1, 2 and as 2, 1.
        self.assertEqual(self.standing(3, (2, 1, []), 0), [(0, 1, 2), (0, 2, 1)])
        # The others as 0, 2 and as 2, 0; of the latter (1, 2, 0) and (2, 0, 1), (2, 1, 0) have stir 4 each.
        self.assertEqual(self.standing(3, (2, 1, []), 1), [(0, 1, 2), (1, 2, 0)])

    def test_the_one_of_least_stir_though_it_is_not_the_least(self):
        # The others as 2, 3, 0: a stir of 6 with part 1 ahead of them all, of 8 behind.
        self.assertIn((3, 0, 1, 2), self.standing(4, (3, 1, []), 1))
        self.assertNotIn((2, 3, 0, 1), self.standing(4, (3, 1, []), 1))
        self.assertIn((2, 3, 0, 1), self.standing(4, (3, 0, []), 1))
        self.assertNotIn((3, 0, 1, 2), self.standing(4, (3, 0, []), 1))
        self.assertEqual([len(self.standing(4, (3, stir, []), 1)) for stir in (0, 1)], [6, 6])

    def test_then_the_least(self):
        # Without a stir all are of least stir.
        self.assertEqual(self.standing(2, (1, 0, []), 0), [(0, 1)])
        self.assertEqual(self.standing(2, (1, 0, []), 1), [(0, 1)])
        self.assertEqual(self.standing(3, (2, 0, []), 2), [(0, 1, 2), (1, 0, 2)])
        self.assertEqual(self.standing(3, (2, 0, []), 1), [(0, 1, 2), (1, 2, 0)])

    def test_of_those_that_the_rule_lets(self):
        self.assertEqual(self.standing(2, (1, 1, [(1, 0)]), 0), [(1, 0)])
        self.assertEqual(self.standing(3, (1, 1, [(1, 0)]), 2), [(1, 0, 2)])
        self.assertEqual(self.standing(3, (1, 1, [(2, 1)]), 1), [(0, 2, 1)])

    def test_all_places_where_all_are_heard(self):
        self.assertEqual(self.standing(3, (2, 1, []), -1), list(itertools.permutations(range(3))))

    def test_a_rule_over_a_gap_has_no_words_either(self):
        parts = [("head", "n", {}, True), ("by", "k", {}, True)]
        kinds = [("s", [], False, False), ("n", [], True, False), ("k", [], False, False)]
        told = one_rule(("r", 0, "s", {}, parts, [], (1, 1, [])), kinds, [("a", "n", "x", "a", {}, 0)])
        told["rules"].append(("up", 0, "k", {}, [("head", "n", {}, True)], [], (0, 0, [])))
        tongue = Tongue(told)
        over = ("rule", 1, (0,), (("gap", "n", ()),))
        self.assertEqual(words_of(tongue, over), [])
        self.assertIsNone(path(tongue, ("rule", 0, (0, 1), (("word", 0, 0), over))))
        self.assertEqual(path(tongue, ("rule", 0, (1, 0), (("word", 0, 0), over))), ())
        heard = ("rule", 1, (0,), (("word", 0, 0),))
        self.assertIsNone(path(tongue, ("rule", 0, (1, 0), (("word", 0, 0), heard))))

    def test_the_path_of_one_at_another_place(self):
        parts = [("head", "n", {}, True), ("by", "n", {}, True)]
        kinds = [("s", [], False, False), ("n", [], True, False)]
        told = one_rule(("r", 0, "n", {}, parts, [], (1, 1, [])), kinds, [("a", "n", "x", "a", {}, 0)])
        tongue = Tongue({**told, "start": "n"})
        inner = ("rule", 0, (1, 0), (("gap", "n", ()), ("word", 0, 0)))
        self.assertEqual(path(tongue, ("rule", 0, (0, 1), (("word", 0, 0), inner))), (1,))


class Deep(unittest.TestCase):
    def test_trees_of_any_depth(self):
        tongue = Tongue(small())
        tree = verb(SEE_PL, A_DOG)
        for _ in range(3000):
            tree = when(tree, (1, 0))
        self.assertEqual(len(words_of(tongue, tree)), 3003)
        self.assertEqual(symbol_of(tongue, tree), ("vp", ("three", "pl", "now"), ()))
        self.assertEqual(cost_of(tongue, tree), 5 + 10 * 3000)
        self.assertIs(is_sentence(tongue, clause(THE_CATS, tree)), True)


class All(unittest.TestCase):
    def test_as_a_plain_teller_tells(self):
        for told, tongue in tongues(3, 40):
            plain = Plain(told)
            for tree in self.some_trees(told, plain):
                symbol, bad = plain.symbol(tree)
                self.assertEqual(path(tongue, tree), bad, (told, tree))
                if symbol is not None:
                    self.assertEqual(symbol_of(tongue, tree), symbol)
                    self.assertEqual(words_of(tongue, tree), plain.words(tree))
                    self.assertEqual(meaning_of(tongue, tree), plain.meaning(tree))
                    self.assertEqual(cost_of(tongue, tree), plain.cost(tree))
                sentence = symbol is not None and symbol[0] == told["start"] and symbol[2] == ()
                self.assertIs(is_sentence(tongue, tree), sentence)

    def some_trees(self, told, plain):
        """Trees of up to two rules one over the other, that can stand and that can't."""
        leaves = [*itertools.islice(plain.word_trees(), 5), *itertools.islice(plain.gap_trees(), 4), ("word", 0, 99)]
        trees = list(leaves)
        for _ in range(2):
            found = []
            for number, rule in enumerate(told["rules"]):
                many = len(rule[4])
                rows = list(itertools.product(trees, repeat=many))
                for trees_of_row in rows[::max(1, len(rows) // 40)]:
                    for places in list(itertools.permutations(range(many)))[:4]:
                        found.append(("rule", number, places, trees_of_row))
            stands = [tree for tree in found if plain.symbol(tree)[0] is not None]
            yield from found
            trees = [*leaves, *stands[::max(1, len(stands) // 6)]]
        yield from leaves

    def test_they_are_defined_in_their_file(self):
        for name in ("symbol_of", "words_of", "meaning_of", "cost_of", "is_sentence"):
            self.assertEqual(getattr(trees_file, name).__module__, "speechloom.trees")


if __name__ == "__main__":
    unittest.main()
