"""[14]: readings, readings_as, count_readings, best_reading, meanings_for, shows_reading."""

import itertools
import random
import unittest

from helper import Plain, one_rule, pairing, small, stem, tongues
from speechloom import reading as reading_file
from speechloom.growing import sayable
from speechloom.reading import best_reading, count_readings, meanings_for, readings, readings_as, shows_reading
from speechloom.tongues import Tongue
from speechloom.trees import cost_of, is_sentence, meaning_of, symbol_of, words_of
from speechloom.words import forms

DOG = ("dog", (("num", "sg"),), ())
A_DOG = ("rule", 1, (0, 1), (("word", 4, 2), ("word", 2, 0)))
THE_CATS = ("rule", 1, (0, 1), (("word", 3, 4), ("word", 0, 1)))
CATS_SEE_A_DOG = ("rule", 0, (0, 1), (THE_CATS, ("rule", 2, (0, 1), (("word", 6, 7), A_DOG))))
NOW = ("word", 8, 2)


def catalan(many):
    """In how many ways so many words are joined in pairs."""
    rows = [0, 1]
    for length in range(2, many + 1):
        rows.append(sum(rows[cut] * rows[length - cut] for cut in range(1, length)))
    return rows[many]


class Small(unittest.TestCase):
    def setUp(self):
        self.tongue = Tongue(small())

    def read(self, text):
        return readings(self.tongue, text.split())

    def test_no_reading(self):
        for text in ("the cats", "cats see dogs", "the cats sees a dog", "a cats see a dog", "see the cats a dog",
                     "zzz", "the cats see a zzz", "the cats see a dog a dog", "a dog"):
            self.assertEqual(self.read(text), [], text)
            self.assertEqual(count_readings(self.tongue, text.split()), 0)
            self.assertIsNone(best_reading(self.tongue, text.split()))
            self.assertEqual(meanings_for(self.tongue, text.split()), [])

    def test_one_reading(self):
        self.assertEqual(self.read("the cats see a dog"), [CATS_SEE_A_DOG])
        self.assertEqual(count_readings(self.tongue, "the cats see a dog".split()), 1)
        self.assertEqual(best_reading(self.tongue, "the cats see a dog".split()), CATS_SEE_A_DOG)
        self.assertEqual(meanings_for(self.tongue, "the cats see a dog".split()),
                         [("see", (("num", "pl"), ("tense", "now")), (("by", ("cat", (("num", "pl"),), ())), ("to", DOG)))])

    def test_a_gap_and_its_fill(self):
        inner = ("rule", 2, (0, 1), (("word", 6, 7), ("gap", "np", ("sg", "three"))))
        want = ("rule", 3, (0, 1), (A_DOG, ("rule", 0, (0, 1), (THE_CATS, inner))))
        self.assertEqual(self.read("a dog the cats see"), [want])

    def test_a_gap_far_from_its_fill(self):
        inner = ("rule", 2, (0, 1), (("word", 6, 7), ("gap", "np", ("sg", "three"))))
        for _ in range(4):
            inner = ("rule", 4, (0, 1), (inner, NOW))
        want = ("rule", 3, (0, 1), (A_DOG, ("rule", 0, (0, 1), (THE_CATS, inner))))
        self.assertEqual(self.read("a dog the cats see now now now now"), [want])

    def test_several_readings_by_cost(self):
        # What is said when may stand ahead and behind; two of them come off in two ways.
        words = "the cats now see a dog now".split()
        got = readings(self.tongue, words)
        verb = ("rule", 2, (0, 1), (("word", 6, 7), A_DOG))
        ahead = ("rule", 4, (1, 0), (("rule", 4, (0, 1), (verb, NOW)), NOW))
        behind = ("rule", 4, (0, 1), (("rule", 4, (1, 0), (verb, NOW)), NOW))
        self.assertEqual(got, [("rule", 0, (0, 1), (THE_CATS, behind)), ("rule", 0, (0, 1), (THE_CATS, ahead))])
        self.assertEqual([cost_of(self.tongue, tree) for tree in got], [50, 50])
        self.assertEqual(best_reading(self.tongue, words), got[0])
        self.assertEqual(len(meanings_for(self.tongue, words)), 1)

    def test_several_meanings(self):
        # One sees a dog, or a dog sees: saw has one form for both.
        told = small()
        told["rules"].append(("late", 50, "s", {}, [("head", "v", {}, False), ("to", "np", {}, False), ("by", "np", {}, False)],
                              [[(0, "num"), (2, "num")], [(0, "per"), (2, "per")], [(-1, "tense"), (0, "tense")]], (2, 1, [])))
        tongue = Tongue(told)
        words = "a dog saw the cat".split()
        got = readings(tongue, words)
        self.assertEqual([cost_of(tongue, tree) for tree in got], sorted(cost_of(tongue, tree) for tree in got))
        self.assertEqual([tree[1] for tree in got], [0, 5, 5])
        cat = ("cat", (("num", "sg"),), ())
        marks = (("num", "sg"), ("tense", "past"))
        self.assertEqual(meanings_for(tongue, words), [("see", marks, (("by", cat), ("to", DOG))),
                                                       ("see", marks, (("by", DOG), ("to", cat)))])

    def test_rows_of_no_words(self):
        for words in ([], ()):
            self.assertEqual(readings(self.tongue, words), [])
            self.assertEqual(count_readings(self.tongue, words), 0)
            self.assertIsNone(best_reading(self.tongue, words))
            self.assertEqual(meanings_for(self.tongue, words), [])
            self.assertEqual(readings_as(self.tongue, words, ("s", ("now",), ())), [])

    def test_texts_that_are_no_words(self):
        for words in ([""], ["the cats"], ["THE"], ["-"], [" "]):
            self.assertEqual(readings(self.tongue, words), [])

    def test_a_list_and_a_tuple(self):
        words = "the cats see a dog now".split()
        symbol = ("s", ("now",), ())
        for ask in (readings, count_readings, best_reading, meanings_for):
            self.assertEqual(ask(self.tongue, words), ask(self.tongue, tuple(words)))
            self.assertTrue(ask(self.tongue, words))
        self.assertEqual(readings_as(self.tongue, words, symbol), readings_as(self.tongue, tuple(words), symbol))
        self.assertIs(shows_reading(self.tongue, tuple(words), best_reading(self.tongue, words)), True)
        self.assertEqual(words, "the cats see a dog now".split())

    def test_another_start(self):
        tongue = Tongue({**small(), "start": "np"})
        self.assertEqual(readings(tongue, ["a", "dog"]), [A_DOG])
        self.assertEqual(readings(tongue, ["i"]), [("word", 5, 2)])
        self.assertEqual(readings(tongue, "the cats see a dog".split()), [])

    def test_words_of_several_trees(self):
        tongue = Tongue({**small(), "start": "v"})
        self.assertEqual(readings(tongue, ["saw"]), [("word", 7, 8), ("word", 7, 9), ("word", 7, 10)])
        self.assertEqual(meanings_for(tongue, ["saw"]), [("see", (("num", "pl"), ("tense", "past")), ()),
                                                         ("see", (("num", "sg"), ("tense", "past")), ())])


class ReadingsAs(unittest.TestCase):
    def setUp(self):
        self.tongue = Tongue(small())

    def test_symbols_without_a_gap(self):
        self.assertEqual(readings_as(self.tongue, ["a", "dog"], ("np", ("sg", "three"), ())), [A_DOG])
        self.assertEqual(readings_as(self.tongue, ["the"], ("det", ("pl",), ())), [("word", 3, 4)])
        self.assertEqual(readings_as(self.tongue, "the cats see a dog".split(), ("s", ("now",), ())), [CATS_SEE_A_DOG])

    def test_symbols_with_a_gap(self):
        gap = ("np", ("pl", "one"))
        want = ("rule", 2, (0, 1), (("word", 6, 7), ("gap", *gap)))
        self.assertEqual(readings_as(self.tongue, ["see"], ("vp", ("three", "pl", "now"), gap)), [want])
        self.assertEqual(readings_as(self.tongue, "the cats see".split(), ("s", ("now",), gap)),
                         [("rule", 0, (0, 1), (THE_CATS, want))])

    def test_gaps_without_words(self):
        gap = ("np", ("pl", "one"))
        self.assertEqual(readings_as(self.tongue, [], ("np", ("pl", "one"), gap)), [("gap", *gap)])
        self.assertEqual(readings_as(self.tongue, [], ("np", ("pl", "one"), ())), [])
        self.assertEqual(readings_as(self.tongue, [], ("np", ("pl", "one"), ("np", ("sg", "one")))), [])

    def test_rules_over_gaps_without_words(self):
        kinds = [("s", [], False, False), ("a", [], False, False), ("n", [], True, False)]
        told = one_rule(("ra", 0, "s", {}, [("head", "a", {}, True)], [], (0, 0, [])), kinds)
        told["rules"] += [("rb", 5, "a", {}, [("head", "n", {}, True)], [], (0, 0, [])),
                          ("rc", 3, "s", {}, [("head", "n", {}, True)], [], (0, 0, []))]
        tongue = Tongue(told)
        gap = ("gap", "n", ())
        self.assertEqual(readings_as(tongue, (), ("s", (), ("n", ()))),
                         [("rule", 2, (0,), (gap,)), ("rule", 0, (0,), (("rule", 1, (0,), (gap,)),))])

    def test_rules_over_gaps_and_over_words(self):
        kinds = [("s", [], False, False), ("a", [], False, False), ("n", [], True, False)]
        told = one_rule(("ra", 1, "s", {}, [("head", "a", {}, True), ("by", "a", {}, True)], [], (1, 2, [])), kinds,
                        [stem("a", "n", "p")])
        told["rules"] += [("rb", 5, "a", {}, [("head", "n", {}, True)], [], (0, 0, [])),
                          ("rc", 3, "a", {}, [("fill", "n", {}, False), ("host", "s", {}, True)], [], (1, 1, []))]
        tongue = Tongue(told)
        gap = ("n", ())
        heard, unheard = ("rule", 1, (0,), (("word", 0, 0),)), ("rule", 1, (0,), (("gap", *gap),))
        self.assertEqual(readings_as(tongue, ["a"], ("a", (), ())), [heard])
        self.assertEqual(readings_as(tongue, [], ("a", (), gap)), [unheard])
        self.assertEqual(readings_as(tongue, ["a"], ("s", (), gap)),
                         [("rule", 0, (0, 1), (unheard, heard)), ("rule", 0, (0, 1), (heard, unheard))])
        want = Plain(told).trees(["a"] * 3)
        self.assertGreater(sum(len(trees) for trees in want.values()), 9)
        for symbol in sayable(tongue):
            self.assertEqual(readings_as(tongue, ["a"] * 3, symbol), want.get(symbol, []))

    def test_gaps_that_are_none(self):
        for values in (("sg", "none"), ("three", "sg"), ("sg",), (), ("sg", "three", "now")):
            gap = ("np", values)
            self.assertEqual(readings_as(self.tongue, "the cats see".split(), ("s", ("now",), gap)), [])
            self.assertEqual(readings_as(self.tongue, [], ("np", values, gap)), [])

    def test_a_fill_of_values_that_no_gap_has(self):
        # What is made of a k has a gender for its number: no gap is so.
        features = [("num", ["sg", "pl"], True), ("gen", ["m", "pl"], True)]
        kinds = [("s", [], False, False), ("n", ["num"], True, False), ("k", ["gen"], False, False)]
        told = one_rule(("fill", 0, "s", {}, [("fill", "n", {}, False), ("host", "n", {}, True)], [], (0, 0, [])), kinds,
                        [("a", "k", "x", "p", {"gen": "m"}, 0), ("b", "k", "x", "q", {"gen": "pl"}, 0)], features)
        told["rules"].append(("odd", 0, "n", {}, [("head", "k", {}, False)], [[(-1, "num"), (0, "gen")]], (0, 0, [])))
        tongue = Tongue(told)
        odd = ("rule", 1, (0,), (("word", 1, 0),))
        self.assertEqual(readings_as(tongue, ["a"], ("n", ("m",), ())), [("rule", 1, (0,), (("word", 0, 0),))])
        self.assertEqual(readings(tongue, ["a"]), [])
        self.assertEqual(count_readings(tongue, ["a"]), 0)
        self.assertEqual(readings(tongue, ["b"]), [("rule", 0, (0, 1), (odd, ("gap", "n", ("pl",))))])

    def test_symbols_that_no_tree_has(self):
        for symbol in (("s", ("now",), ("np", ("sg", "none"))), ("s", ("now",), ("n", ("sg",))), ("none", (), ()),
                       ("s", (), ()), ("s", ("never",), ()), ("s", ("past",), ()), ("s", ("now",), ("none", ())),
                       ("s", ("now",), ("np", ())), ("np", ("sg", "three"), ("np", ("sg", "three")))):
            self.assertEqual(readings_as(self.tongue, "the cats see a dog".split(), symbol), [], symbol)
            self.assertEqual(readings_as(self.tongue, [], symbol if symbol[0] != "np" else ("np", (), ())), [], symbol)

    def test_another_gap_filled_within(self):
        # i saw, with a gap, ahead of which a dog fills that of another one: there is one gap alone at a time.
        told = small()
        told["rules"].append(("say", 1, "vp", {}, [("head", "v", {}, False), ("that", "s", {}, True)],
                              [[(-1, "num"), (0, "num")], [(-1, "per"), (0, "per")], [(0, "tense"), (-1, "tense")]], (0, 0, [])))
        tongue = Tongue(told)
        for words in ("i saw a dog the cats see", "the cats i saw i see", "a dog i saw the cats i see"):
            want = Plain(told).trees(words.split())
            for symbol in sayable(tongue):
                self.assertEqual(readings_as(tongue, words.split(), symbol), want.get(symbol, []))

    def test_by_rising_cost_then_tree(self):
        stems = [stem("a", "n", "p", 5), stem("a", "n", "q", 1), stem("a", "n", "r", 5), stem("a", "n", "o", 0)]
        tongue = Tongue(pairing(stems))
        self.assertEqual(readings_as(tongue, ["a"], ("n", (), ())),
                         [("word", 3, 0), ("word", 1, 0), ("word", 0, 0), ("word", 2, 0)])


class Ties(unittest.TestCase):
    def test_of_one_cost_by_trees(self):
        tongue = Tongue(pairing([stem("a", "n", "p"), stem("a", "n", "q")], order=(1, 0, [])))
        got = readings(tongue, ["a", "a"])
        want = [("rule", 0, places, (("word", one, 0), ("word", other, 0)))
                for places in ((0, 1), (1, 0)) for one in (0, 1) for other in (0, 1)]
        self.assertEqual(got, want)
        self.assertEqual(best_reading(tongue, ["a", "a"]), want[0])

    def test_of_one_cost_among_many_trees(self):
        # The best one of thousands and of some: the same as the first that is listed.
        for stir in (0, 1):
            tongue = Tongue(pairing([stem("a", "n", "p", 2), stem("a", "n", "q", 2)], 3, (1, stir, [])))
            for many in range(1, 5):
                got = readings(tongue, ["a"] * many)
                self.assertEqual(got, sorted(got, key=lambda tree: (cost_of(tongue, tree), tree)))
                self.assertEqual(best_reading(tongue, ["a"] * many), got[0])

    def test_what_costs_less_goes_ahead_of_the_lesser_tree(self):
        told = pairing([stem("a", "n", "p", 9), stem("a", "n", "q", 1)], order=(1, 4, []))
        told["rules"].append(("s", 0, "n", {}, [("head", "n", {}, False), ("to", "n", {}, False)], [], (0, 0, [])))
        told["rules"][0] = (*told["rules"][0][:1], 2, *told["rules"][0][2:])
        tongue = Tongue(told)
        words = ["a", "a"]
        self.assertEqual(best_reading(tongue, words), ("rule", 1, (0, 1), (("word", 1, 0), ("word", 1, 0))))
        self.assertEqual(best_reading(tongue, words), readings(tongue, words)[0])

    def test_the_stir_counts(self):
        # b is read as the head at once, or as the other part with a stir of two.
        kinds = [("s", [], False, False), ("n", [], False, False), ("v", [], False, False)]
        for stir, head_rank, want in ((3, 5, (0, 1)), (3, 6, (0, 1)), (3, 7, (1, 0)), (0, 1, (1, 0))):
            rule = ("r", 0, "s", {}, [("head", "v", {}, False), ("by", "n", {}, False)], [], (1, stir, []))
            stems = [stem("a", "v", "p", head_rank), stem("a", "n", "q"), stem("b", "n", "r"), stem("b", "v", "s")]
            tongue = Tongue(one_rule(rule, kinds, stems))
            self.assertEqual(best_reading(tongue, ["a", "b"])[2], want, (stir, head_rank))


class Agreeing(unittest.TestCase):
    """Groups of several parts, in free orders."""

    def check(self, *agrees):
        features = [("num", ["sg", "pl"], True), ("gen", ["m", "f"], False)]
        stems = [(text, "n", "x", text + gen, {"num": num, "gen": gen}, 0)
                 for text, num in (("a", "sg"), ("b", "pl")) for gen in ("m", "f")]
        parts = [("head", "n", {}, True), ("by", "n", {}, True), ("to", "n", {}, False)]
        rule = ("r", 0, "s", {"num": ["pl"]}, parts, list(agrees), (2, 1, []))
        told = one_rule(rule, [("s", ["num"], False, False), ("n", ["num", "gen"], True, False)], stems, features)
        tongue, plain = Tongue(told), Plain(told)
        found = 0
        for words in [*itertools.product("ab", repeat=2), *itertools.product("ab", repeat=3)]:
            want = plain.trees(words)
            found += len(want)
            for symbol in sayable(tongue):
                self.assertEqual(readings_as(tongue, words, symbol), want.get(symbol, []), words)
        return found

    def test_a_chain(self):
        self.assertTrue(self.check([(0, "gen"), (1, "gen")], [(1, "num"), (2, "num")]))

    def test_a_pair_of_the_whole_shared(self):
        self.assertTrue(self.check([(-1, "num"), (0, "num")], [(2, "num"), (-1, "num")]))

    def test_a_pair_of_a_part_shared(self):
        self.assertTrue(self.check([(0, "num"), (1, "num")], [(2, "gen"), (0, "gen")], [(2, "num"), (1, "num")]))

    def test_none(self):
        self.assertTrue(self.check())

    def test_all_in_one(self):
        self.assertTrue(self.check([(-1, "num"), (0, "num"), (1, "num"), (2, "num")], [(0, "gen"), (1, "gen"), (2, "gen")]))


class FreeOrders(unittest.TestCase):
    def free(self, order, lets=False, gap=False):
        """A sentence of five unlike parts."""
        names = ["a", "b", "c", "d", "e"]
        kinds = [("s", [], False, False), *[(name, [], gap, False) for name in names]]
        parts = [("head" if name == "a" else "r" + name, name, {}, lets) for name in names]
        return one_rule(("r", 0, "s", {}, parts, [], order), kinds, [stem(name, name, name) for name in names])

    def test_all_orders_within_the_stray(self):
        for stray, ahead in ((0, []), (1, []), (2, [(3, 0)]), (4, []), (3, [(4, 0), (2, 1)])):
            told = self.free((stray, 2, ahead))
            tongue, plain = Tongue(told), Plain(told)
            for order in itertools.permutations(range(5)):
                words = ["abcde"[part] for part in order]
                places = tuple(order.index(part) for part in range(5))
                want = [("rule", 0, places, tuple(("word", part, 0) for part in range(5)))]
                if places not in plain.places(told["rules"][0]):
                    want = []
                self.assertEqual(readings(tongue, words), want)
                self.assertEqual(count_readings(tongue, words), len(want))

    def test_an_unheard_part_has_one_place_in_each_order(self):
        for order in ((4, 1, []), (4, 0, []), (2, 3, [(2, 1)]), (4, 1, [(4, 0)])):
            told = self.free(order, True, True)
            tongue, plain = Tongue(told), Plain(told)
            for missing in range(5):
                gap = ("abcde"[missing], ())
                for row in itertools.permutations([part for part in range(5) if part != missing]):
                    words = ["abcde"[part] for part in row]
                    got = readings_as(tongue, words, ("s", (), gap))
                    trees = tuple(("gap", *gap) if part == missing else ("word", part, 0) for part in range(5))
                    fits = [places for places in plain.places(told["rules"][0])
                            if sorted(row, key=lambda part: places[part]) == list(row)]
                    best = min(fits, key=lambda places: (plain.stir(told["rules"][0], places), places), default=None)
                    self.assertEqual(got, [("rule", 0, best, trees)] if fits else [])

    def test_orders_of_parts_of_one_kind(self):
        parts = [("head", "n", {}, False), ("by", "n", {}, False), ("to", "n", {}, False)]
        told = one_rule(("r", 0, "s", {}, parts, [], (2, 1, [])), [("s", [], False, False), ("n", [], False, False)],
                        [stem("a", "n", "p"), stem("b", "n", "q")])
        tongue = Tongue(told)
        got = readings(tongue, ["a", "b", "a"])
        self.assertEqual(len(got), 6)
        self.assertEqual(got[0], ("rule", 0, (0, 1, 2), (("word", 0, 0), ("word", 1, 0), ("word", 0, 0))))
        self.assertEqual([cost_of(tongue, tree) for tree in got], [0, 2, 2, 4, 4, 4])
        self.assertEqual([tree[2] for tree in got], [(0, 1, 2), (0, 2, 1), (1, 0, 2), (1, 2, 0), (2, 0, 1), (2, 1, 0)])
        # Which of both a is the head and which another part is alike in meaning.
        self.assertEqual(len(meanings_for(tongue, ["a", "b", "a"])), 3)


class Many(unittest.TestCase):
    def test_counts_of_pairs(self):
        tongue = Tongue(pairing([stem("a", "n", "p")]))
        for many in range(1, 15):
            self.assertEqual(count_readings(tongue, ["a"] * many), catalan(many))
        self.assertEqual(len(readings(tongue, ["a"] * 8)), 429)
        self.assertEqual(len(readings(tongue, ["a"] * 9)), 1430)

    def test_counts_that_are_large(self):
        stems = [stem("a", "n", "p" + letter) for letter in "abcdefghij"]
        tongue = Tongue(pairing(stems, order=(1, 1, [])))
        words = ["a"] * 14
        self.assertEqual(count_readings(tongue, words), catalan(14) * 10 ** 14 * 2 ** 13)
        best = best_reading(tongue, words)
        self.assertIs(shows_reading(tongue, words, best), True)
        self.assertEqual(cost_of(tongue, best), 0)
        # The least tree of no stir: what is joined stands last, and each word is of the first stem.
        want = ("word", 0, 0)
        for _ in range(13):
            want = ("rule", 0, (0, 1), (want, ("word", 0, 0)))
        self.assertEqual(best, want)

    def test_five_free_parts_in_14_words(self):
        kinds = [("s", [], False, False), ("n", ["num"], True, False)]
        features = [("num", ["sg", "pl"], True)]
        roles = ("head", "by", "to", "at", "of")
        agrees = [[(-1, "num"), (0, "num")]]
        rules = [("r" + "abcd"[at], at, "n", {}, [(role, "n", {}, True) for role in roles[:many]], agrees, (4, 1, []))
                 for at, many in enumerate((5, 4, 3, 2))]
        rules.append(("top", 0, "s", {}, [("head", "n", {}, False)], [], (0, 0, [])))
        rules.append(("fill", 0, "s", {}, [("fill", "n", {}, False), ("host", "n", {}, True)], [], (1, 1, [])))
        told = {"features": features, "kinds": kinds, "seams": [], "stems": [stem("a", "n", "p")],
                "endings": [("x", "", {"num": "sg"}, 0), ("x", "", {"num": "pl"}, 1)], "rules": rules, "start": "s"}
        tongue = Tongue(told)
        # As the plain teller counts them, who needs a minute for it.
        self.assertEqual([count_readings(tongue, ["a"] * many) for many in (1, 2, 3)], [4, 32, 576])
        words = ["a"] * 14
        count = count_readings(tongue, words)
        self.assertGreater(count, 10 ** 18)
        self.assertLess(count, 10 ** 60)
        best = best_reading(tongue, words)
        self.assertIs(shows_reading(tongue, words, best), True)

    def test_400_symbols_in_14_words(self):
        features = [("f" + "abcd"[at], ["v" + "abcdef"[value] for value in range(top)], True)
                    for at, top in enumerate((4, 4, 5, 5))]
        names = [feature[0] for feature in features]
        stems = [("a", "n", "x", "p", dict(zip(names, chosen)), 0)
                 for chosen in itertools.product(*[feature[1] for feature in features[:2]])]
        endings = [("x", "", dict(zip(names[2:], chosen)), 0)
                   for chosen in itertools.product(*[feature[1] for feature in features[2:]])]
        agrees = [[(-1, name), (0, name), (1, name)] for name in names]
        told = {"features": features, "kinds": [("n", names, False, False)], "seams": [], "stems": stems,
                "endings": endings, "start": "n",
                "rules": [("r", 0, "n", {}, [("head", "n", {}, False), ("by", "n", {}, False)], agrees, (1, 0, []))]}
        tongue = Tongue(told)
        self.assertEqual(count_readings(tongue, ["a"] * 14), 400 * catalan(14) * 2 ** 13)

    def test_lists_of_nearly_2000(self):
        tongue = Tongue(pairing([stem("a", "n", "p"), stem("b", "n", "q"), stem("b", "n", "q", 1)], 1, (0, 0, [])))
        words = ["a", "b", "a", "a", "b", "a", "a", "a"]
        got = readings(tongue, words)
        self.assertEqual(len(got), 429 * 4)
        self.assertEqual(got, sorted(got, key=lambda tree: (cost_of(tongue, tree), tree)))
        self.assertEqual(meanings_for(tongue, words),
                         sorted({meaning_of(tongue, tree) for tree in got}))


class ShowsReading(unittest.TestCase):
    def setUp(self):
        self.tongue = Tongue(small())
        self.words = "the cats see a dog".split()

    def test_a_reading(self):
        self.assertIs(shows_reading(self.tongue, self.words, CATS_SEE_A_DOG), True)

    def test_other_words(self):
        for words in (self.words[:-1], [*self.words, "now"], self.words[::-1], [], ["the"]):
            self.assertIs(shows_reading(self.tongue, words, CATS_SEE_A_DOG), False)

    def test_trees_that_are_no_sentences(self):
        self.assertIs(shows_reading(self.tongue, ["a", "dog"], A_DOG), False)
        gapped = ("rule", 0, (0, 1), (THE_CATS, ("rule", 2, (0, 1), (("word", 6, 7), ("gap", "np", ("sg", "three"))))))
        self.assertIs(shows_reading(self.tongue, "the cats see".split(), gapped), False)
        self.assertIs(shows_reading(self.tongue, [], ("gap", "np", ("sg", "three"))), False)

    def test_trees_of_any_numbers_and_texts(self):
        for tree in (("word", 99, 0), ("word", 0, 99), ("word", -1, -1), ("gap", "none", ()), ("gap", "", ("x", "y")),
                     ("gap", "np", ("sg",)), ("gap", "np", ("sg", "three", "now")), ("rule", 99, (0, 1), (A_DOG, A_DOG)),
                     ("rule", -5, (0, 1), CATS_SEE_A_DOG[3]), ("rule", 0, (), ()), ("rule", 0, (0, 1), ()),
                     ("rule", 0, (1, 0), CATS_SEE_A_DOG[3]), ("rule", 0, (0, 1, 2), CATS_SEE_A_DOG[3]),
                     ("rule", 0, (0, 99), CATS_SEE_A_DOG[3]), ("rule", 0, (0, 1), (*CATS_SEE_A_DOG[3], A_DOG)),
                     ("rule", 0, (0, 1), (("word", -9, 10 ** 20), ("gap", "\u00e9", ("", ""))))):
            self.assertIs(shows_reading(self.tongue, self.words, tree), False, tree)

    def test_just_the_readings(self):
        words = "the cats now see a dog now".split()
        got = readings(self.tongue, words)
        for tree in got:
            self.assertIs(shows_reading(self.tongue, words, tree), True)
        for number in range(5):
            for places in ((0, 1), (1, 0)):
                for trees in itertools.product([got[0][3][0], got[0][3][1], got[1][3][1], NOW], repeat=2):
                    tree = ("rule", number, places, trees)
                    self.assertIs(shows_reading(self.tongue, words, tree), tree in got)


class Kept(unittest.TestCase):
    def test_nothing_that_is_handed_in_or_told_counts_later(self):
        told = small()
        tongue = Tongue(told)
        words = "a dog the cats now see now".split()
        symbol = ("s", ("now",), ())
        asks = [lambda: readings(tongue, words), lambda: readings_as(tongue, words, symbol),
                lambda: meanings_for(tongue, words)]
        want = [list(ask()) for ask in asks]
        self.assertTrue(all(want))
        for ask in asks:
            got = ask()
            got.reverse()
            got.append("x")
            del got[0]
        for name in ("stems", "rules", "kinds", "features", "endings"):
            told[name].clear()
        self.assertEqual([ask() for ask in asks], want)
        self.assertEqual(words, "a dog the cats now see now".split())

    def test_told_the_same_whatever_was_asked_ahead(self):
        rows = ["the cats see a dog", "a dog i saw now", "zzz", "i now see the cities now", ""]
        fresh = {row: readings(Tongue(small()), row.split()) for row in rows}
        tongue = Tongue(small())
        for row in [*rows, *reversed(rows)]:
            self.assertEqual(readings(tongue, row.split()), fresh[row])
            readings_as(tongue, row.split(), ("vp", ("one", "sg", "now"), ("np", ("pl", "one"))))

    def test_they_are_defined_in_their_file(self):
        for name in ("readings", "readings_as", "count_readings", "best_reading", "meanings_for", "shows_reading"):
            self.assertEqual(getattr(reading_file, name).__module__, "speechloom.reading")


class All(unittest.TestCase):
    def test_as_a_plain_teller_tells(self):
        chance = random.Random(7)
        asked = 0
        for told, tongue in tongues(1, 70):
            plain = Plain(told)
            texts = sorted({row[0] for row in forms(tongue)})
            for many in range(4):
                rows = list(itertools.product(texts, repeat=many))
                for words in chance.sample(rows, min(3, len(rows))):
                    trees = plain.trees(words)
                    if sum(len(found) for found in trees.values()) <= 2000:
                        self.check(told, tongue, plain, words, trees)
                        asked += 1
        self.assertGreater(asked, 400)

    def check(self, told, tongue, plain, words, trees):
        want = sorted((tree for symbol, found in trees.items() if symbol[0] == told["start"] and symbol[2] == ()
                       for tree in found), key=lambda tree: (plain.cost(tree), tree))
        self.assertEqual(readings(tongue, words), want, (told, words))
        self.assertEqual(count_readings(tongue, words), len(want))
        self.assertEqual(best_reading(tongue, words), want[0] if want else None)
        self.assertEqual(meanings_for(tongue, words), sorted({plain.meaning(tree) for tree in want}))
        for symbol in sayable(tongue):
            self.assertEqual(readings_as(tongue, words, symbol), trees.get(symbol, []), (told, words, symbol))
        for tree in want[:9]:
            self.assertIs(shows_reading(tongue, words, tree), True)
            self.assertEqual((symbol_of(tongue, tree)[0], words_of(tongue, tree)), (told["start"], list(words)))
            self.assertIs(is_sentence(tongue, tree), True)


if __name__ == "__main__":
    unittest.main()
