"""[15]: ways, ways_as, count_ways, best_way, sayings, best_saying, shows_saying."""

import itertools
import math
import random
import unittest

from helper import Plain, one_rule, pairing, small, stem, tongues
from speechloom import saying as saying_file
from speechloom.growing import sayable
from speechloom.meanings import nodes_of
from speechloom.reading import meanings_for, readings, readings_as
from speechloom.saying import best_saying, best_way, count_ways, sayings, shows_saying, ways, ways_as
from speechloom.tongues import Tongue
from speechloom.trees import cost_of, is_sentence, meaning_of, words_of
from speechloom.words import forms

HOLE = ("", (), ())


def noun(atom, num="sg"):
    return (atom, (("num", num),), ())


def see(num, tense, *pairs):
    return ("see", (("num", num), ("tense", tense)), tuple(sorted(pairs)))


CATS_SEE_A_DOG = see("pl", "now", ("by", noun("cat", "pl")), ("to", noun("dog")))
NOW = ("now", (), ())
A_DOG = ("rule", 1, (0, 1), (("word", 4, 2), ("word", 2, 0)))
THE_DOG = ("rule", 1, (0, 1), (("word", 3, 3), ("word", 2, 0)))
THE_CATS = ("rule", 1, (0, 1), (("word", 3, 4), ("word", 0, 1)))


def clause(subject, predicate):
    return ("rule", 0, (0, 1), (subject, predicate))


def verb(word, inner):
    return ("rule", 2, (0, 1), (word, inner))


def leaf(atom):
    return (atom, (), ())


def node(atom, *pairs):
    return (atom, (), tuple(sorted(pairs)))


class Small(unittest.TestCase):
    def setUp(self):
        self.tongue = Tongue(small())

    def none(self, tongue, meaning):
        self.assertEqual(ways(tongue, meaning), [], meaning)
        self.assertEqual(count_ways(tongue, meaning), 0)
        self.assertIsNone(best_way(tongue, meaning))
        self.assertEqual(sayings(tongue, meaning), [])
        self.assertIsNone(best_saying(tongue, meaning))
        for words in ((), ("the", "cats", "see", "a", "dog"), ["a", "dog"]):
            self.assertIs(shows_saying(tongue, words, meaning), False)

    def test_all_ways(self):
        see_word, gap = ("word", 6, 7), ("gap", "np", ("sg", "three"))
        want = [clause(THE_CATS, verb(see_word, THE_DOG)), clause(THE_CATS, verb(see_word, A_DOG)),
                ("rule", 3, (0, 1), (THE_DOG, clause(THE_CATS, verb(see_word, gap)))),
                ("rule", 3, (0, 1), (A_DOG, clause(THE_CATS, verb(see_word, gap))))]
        self.assertEqual(ways(self.tongue, CATS_SEE_A_DOG), want)
        self.assertEqual(count_ways(self.tongue, CATS_SEE_A_DOG), 4)
        self.assertEqual(best_way(self.tongue, CATS_SEE_A_DOG), want[0])

    def test_all_sayings(self):
        self.assertEqual(sayings(self.tongue, CATS_SEE_A_DOG),
                         [(36, ("the", "cats", "see", "a", "dog")), (36, ("the", "cats", "see", "the", "dog")),
                          (43, ("a", "dog", "the", "cats", "see")), (43, ("the", "dog", "the", "cats", "see"))])
        # The least tree of the least cost has other words than the least saying.
        self.assertEqual(best_saying(self.tongue, CATS_SEE_A_DOG), ("the", "cats", "see", "a", "dog"))
        self.assertEqual(words_of(self.tongue, best_way(self.tongue, CATS_SEE_A_DOG)), "the cats see the dog".split())

    def test_one_way(self):
        tongue = Tongue({**small(), "start": "n"})
        self.assertEqual(ways(tongue, noun("cat", "pl")), [("word", 0, 1)])
        self.assertEqual(sayings(tongue, noun("cat", "pl")), [(11, ("cats",))])
        self.assertEqual(best_saying(tongue, noun("cat", "pl")), ("cats",))
        self.assertEqual((best_way(tongue, noun("cat", "pl")), count_ways(tongue, noun("cat", "pl"))), (("word", 0, 1), 1))

    def test_meanings_that_no_sentence_has(self):
        by, to = ("by", noun("cat", "pl")), ("to", noun("dog"))
        for meaning in (see("pl", "now", by, ("to", noun("bird"))), ("watch", CATS_SEE_A_DOG[1], CATS_SEE_A_DOG[2]),
                        see("pl", "now", by, to, ("with", noun("dog"))), see("pl", "never", by, to),
                        ("see", (("num", "pl"),), (by, to)), ("see", (("tense", "now"), ("num", "pl")), (by, to)),
                        ("see", (("num", "pl"), ("per", "three"), ("tense", "now")), (by, to)),
                        see("pl", "now", by), see("pl", "now", to), see("pl", "now", by, to, to), see("pl", "now"),
                        see("sg", "now", by, to), noun("cat"), NOW, HOLE, ("x", (), ()), ("", (), (by, to)),
                        ("", (("num", "pl"), ("tense", "now")), (by, to))):
            self.none(self.tongue, meaning)

    def test_a_hole_within(self):
        by = ("by", noun("cat", "pl"))
        for inner in (HOLE, ("", (), (("at", NOW),)), ("dog", (("num", "sg"),), (("at", HOLE),))):
            self.none(self.tongue, see("pl", "now", by, ("to", inner)))
        self.none(self.tongue, see("pl", "now", by, ("to", noun("dog")), ("at", HOLE)))

    def test_features_that_are_told_and_that_are_not(self):
        # The person isn't told: see of one who sees himself alone and of a dog are one meaning but for its parts.
        me = ("me", (("num", "sg"),), ())
        meaning = see("sg", "now", ("by", me), ("to", noun("dog")))
        self.assertEqual(best_saying(self.tongue, meaning), ("i", "see", "a", "dog"))
        meaning = see("sg", "now", ("by", noun("dog")), ("to", me))
        self.assertEqual(best_saying(self.tongue, meaning), ("a", "dog", "sees", "i"))
        self.assertEqual(sayings(self.tongue, see("sg", "past", ("by", me), ("to", me))),
                         [(32, ("i", "saw", "i")), (39, ("i", "i", "saw"))])

    def test_a_tongue_of_no_words(self):
        self.none(Tongue({**small(), "stems": []}), CATS_SEE_A_DOG)
        self.none(Tongue({**small(), "rules": []}), CATS_SEE_A_DOG)

    def test_pairs_that_stand_twice(self):
        meaning = see("pl", "now", ("by", noun("cat", "pl")), ("to", noun("dog")), ("at", NOW), ("at", NOW))
        want = Plain(small()).ways(meaning)
        self.assertGreater(len(want), 9)
        self.assertEqual(ways(self.tongue, meaning), want)
        self.assertIn("the cats now see a dog now".split(), [words_of(self.tongue, tree) for tree in want])
        once = see("pl", "now", ("by", noun("cat", "pl")), ("to", noun("dog")), ("at", NOW))
        self.assertLess(count_ways(self.tongue, once), len(want))


class WaysAs(unittest.TestCase):
    def setUp(self):
        self.tongue = Tongue(small())

    def test_symbols_without_a_gap(self):
        self.assertEqual(ways_as(self.tongue, noun("dog"), ("np", ("sg", "three"), ())), [THE_DOG, A_DOG])
        self.assertEqual(ways_as(self.tongue, noun("dog"), ("n", ("sg",), ())), [("word", 2, 0)])
        self.assertEqual(ways_as(self.tongue, CATS_SEE_A_DOG, ("s", ("now",), ())), ways(self.tongue, CATS_SEE_A_DOG))

    def test_a_hole_and_a_gap(self):
        gap = ("np", ("pl", "one"))
        self.assertEqual(ways_as(self.tongue, HOLE, (*gap, gap)), [("gap", *gap)])
        meaning = see("pl", "now", ("by", noun("cat", "pl")), ("to", HOLE))
        want = [clause(THE_CATS, verb(("word", 6, 7), ("gap", *gap)))]
        self.assertEqual(ways_as(self.tongue, meaning, ("s", ("now",), gap)), want)
        self.assertEqual(ways_as(self.tongue, see("pl", "now", ("to", HOLE)), ("vp", ("three", "pl", "now"), gap)),
                         [want[0][3][1]])

    def test_a_hole_and_no_gap_or_a_gap_and_no_hole(self):
        gap = ("np", ("sg", "three"))
        meaning = see("pl", "now", ("by", noun("cat", "pl")), ("to", HOLE))
        self.assertEqual(ways_as(self.tongue, meaning, ("s", ("now",), ())), [])
        self.assertEqual(ways_as(self.tongue, HOLE, (*gap, ())), [])
        self.assertEqual(ways_as(self.tongue, CATS_SEE_A_DOG, ("s", ("now",), gap)), [])
        self.assertEqual(ways_as(self.tongue, noun("dog"), (*gap, gap)), [])

    def test_symbols_that_no_tree_has(self):
        gap = ("np", ("sg", "three"))
        holed = see("pl", "now", ("by", noun("cat", "pl")), ("to", HOLE))
        for meaning in (CATS_SEE_A_DOG, holed, HOLE, noun("dog")):
            for symbol in (("none", (), ()), ("s", (), ()), ("s", ("never",), ()), ("s", ("now", "now"), ()),
                           ("s", ("now",), ("none", ())), ("s", ("now",), ("np", ())), ("s", ("now",), ("np", ("sg", "x"))),
                           ("s", ("now",), ("n", ("sg",))), ("n", ("sg",), gap), ("np", ("pl", "three"), gap),
                           ("np", ("sg", "x"), ("np", ("sg", "x")))):
                self.assertEqual(ways_as(self.tongue, meaning, symbol), [], symbol)

    def test_two_holes(self):
        meaning = see("pl", "now", ("by", HOLE), ("to", HOLE))
        self.assertEqual(ways_as(self.tongue, meaning, ("s", ("now",), ("np", ("sg", "three")))), [])

    def test_a_hole_with_pairs(self):
        # A gap as a head takes pairs: the hole has them.
        kinds = [("s", [], False, False), ("n", [], True, False)]
        told = one_rule(("of", 1, "n", {}, [("head", "n", {}, True), ("of", "n", {}, False)], [], (1, 2, [])), kinds,
                        [stem("a", "n", "p"), stem("b", "n", "q")])
        told["rules"].append(("front", 4, "s", {}, [("fill", "n", {}, False), ("host", "n", {}, True)], [], (1, 1, [])))
        told["start"] = "s"
        tongue, plain = Tongue(told), Plain(told)
        gap = ("n", ())
        got = ways_as(tongue, node("", ("of", leaf("p"))), ("n", (), gap))
        # An unheard head stands at one place alone.
        self.assertEqual(got, [("rule", 0, (0, 1), (("gap", *gap), ("word", 0, 0)))])
        # The pairs of what fills and of what is filled come together.
        meaning = node("p", ("of", leaf("q")), ("of", leaf("p")), ("of", leaf("q")))
        want = plain.ways(meaning)
        self.assertEqual(ways(tongue, meaning), want)
        self.assertTrue(any(tree[1] == 1 and tree[3][0][0] == tree[3][1][0] == "rule" for tree in want))
        for inner in (leaf("p"), node("", ("of", leaf("p")), ("of", leaf("q"))), meaning, node("p", ("of", HOLE))):
            for symbol in sayable(tongue):
                self.assertEqual(ways_as(tongue, inner, symbol), plain.trees_meaning(inner).get(symbol, []))

    def test_by_rising_cost_then_tree(self):
        tongue = Tongue(pairing([stem("c", "n", "p", 5), stem("b", "n", "p", 1), stem("a", "n", "p", 5), stem("d", "n", "p")]))
        self.assertEqual(ways_as(tongue, leaf("p"), ("n", (), ())),
                         [("word", 3, 0), ("word", 1, 0), ("word", 0, 0), ("word", 2, 0)])


class Parts(unittest.TestCase):
    def test_two_parts_of_one_role(self):
        parts = [("head", "v", {}, False), ("by", "n", {}, False), ("by", "n", {}, False)]
        told = one_rule(("r", 0, "s", {}, parts, [], (0, 0, [])),
                        [("s", [], False, False), ("n", [], False, False), ("v", [], False, False)],
                        [stem("v", "v", "v"), stem("a", "n", "p"), stem("b", "n", "q")])
        tongue = Tongue(told)
        self.assertEqual([words_of(tongue, tree) for tree in ways(tongue, node("v", ("by", leaf("p")), ("by", leaf("q"))))],
                         [["v", "a", "b"], ["v", "b", "a"]])
        # A pair that stands twice is said in one way alone.
        self.assertEqual([words_of(tongue, tree) for tree in ways(tongue, node("v", ("by", leaf("p")), ("by", leaf("p"))))],
                         [["v", "a", "a"]])
        self.assertEqual(ways(tongue, node("v", ("by", leaf("p")))), [])
        self.assertEqual(ways(tongue, node("v", *[("by", leaf("p"))] * 3)), [])

    def test_mute_parts(self):
        kinds = [("s", [], False, False), ("n", ["num"], False, False), ("m", ["num"], False, True)]
        features = [("num", ["sg", "pl"], True)]
        rule = ("r", 0, "s", {}, [("-", "m", {}, False), ("head", "n", {}, False), ("-", "m", {}, False)],
                [[(0, "num"), (1, "num")]], (0, 0, []))
        stems = [("a", "n", "x", "p", {"num": "sg"}, 0), ("k", "m", "x", "", {"num": "sg"}, 2),
                 ("l", "m", "x", "", {"num": "pl"}, 0), ("m", "m", "x", "", {"num": "sg"}, 1)]
        tongue = Tongue(one_rule(rule, kinds, stems, features))
        self.assertEqual(sayings(tongue, ("p", (("num", "sg"),), ())),
                         [(1, ("m", "a", "l")), (2, ("k", "a", "l")), (2, ("m", "a", "m")), (3, ("k", "a", "m")),
                          (3, ("m", "a", "k")), (4, ("k", "a", "k"))])
        self.assertEqual(count_ways(tongue, ("p", (("num", "sg"),), ())), 6)
        self.assertEqual(best_saying(tongue, ("p", (("num", "sg"),), ())), ("m", "a", "l"))

    def test_a_mute_part_that_is_not_there(self):
        rule = ("r", 0, "s", {}, [("-", "m", {}, False), ("head", "n", {}, False)], [], (0, 0, []))
        kinds = [("s", [], False, False), ("n", [], False, False), ("m", [], False, True)]
        tongue = Tongue(one_rule(rule, kinds, [stem("a", "n", "p")]))
        self.assertEqual((ways(tongue, leaf("p")), count_ways(tongue, leaf("p"))), ([], 0))

    def test_all_orders_of_free_parts(self):
        names = ["a", "b", "c", "d", "e"]
        kinds = [("s", [], False, False), *[(name, [], False, False) for name in names]]
        parts = [("head" if name == "a" else "r" + name, name, {}, False) for name in names]
        meaning = node("a", *[("r" + name, leaf(name)) for name in names[1:]])
        for order in ((4, 2, []), (1, 1, []), (2, 0, [(3, 0)]), (3, 5, [(4, 0), (2, 1)]), (0, 0, [])):
            told = one_rule(("r", 3, "s", {}, parts, [], order), kinds, [stem(name, name, name) for name in names])
            tongue, plain = Tongue(told), Plain(told)
            rows = []
            for places in plain.places(told["rules"][0]):
                words = tuple(name for _, name in sorted(zip(places, names)))
                rows.append((3 + plain.stir(told["rules"][0], places), words))
            self.assertEqual(sayings(tongue, meaning), sorted(rows))
            self.assertEqual(count_ways(tongue, meaning), len(rows))
            self.assertEqual(best_saying(tongue, meaning), min(rows)[1])
            self.assertEqual([tree[2] for tree in ways(tongue, meaning)],
                             sorted(plain.places(told["rules"][0]), key=lambda row: (plain.stir(told["rules"][0], row), row)))

    def test_a_gap_within_a_gap_filled_behind(self):
        # say that .., over which another one is fronted.
        told = small()
        told["rules"].append(("say", 1, "vp", {}, [("head", "v", {}, False), ("that", "s", {}, True)],
                              [[(-1, "num"), (0, "num")], [(-1, "per"), (0, "per")], [(0, "tense"), (-1, "tense")]], (0, 0, [])))
        tongue, plain = Tongue(told), Plain(told)
        me = ("me", (("num", "sg"),), ())
        meaning = see("sg", "past", ("by", me), ("that", CATS_SEE_A_DOG))
        want = plain.ways(meaning)
        self.assertEqual(ways(tongue, meaning), want)
        rows = [words for _, words in sayings(tongue, meaning)]
        for text in ("i saw the cats see a dog", "a dog i saw the cats see", "i saw a dog the cats see"):
            self.assertIn(tuple(text.split()), rows)


class Sayings(unittest.TestCase):
    def test_each_row_once_with_its_least_cost(self):
        # Two stems of one text and one atom, and two rules that do the same.
        told = pairing([stem("a", "n", "p", 3), stem("a", "n", "p", 1), stem("b", "n", "q", 2), stem("b", "n", "q", 2)], 4, (1, 0, []))
        told["rules"].append(("q", 6, "n", {}, [("head", "n", {}, False), ("by", "n", {}, False)], [], (0, 0, [])))
        tongue = Tongue(told)
        meaning = node("p", ("by", leaf("q")))
        self.assertEqual(sayings(tongue, meaning), [(7, ("a", "b")), (7, ("b", "a"))])
        self.assertEqual(count_ways(tongue, meaning), 2 * 2 * 3)
        costs = [cost_of(tongue, tree) for tree in ways(tongue, meaning)]
        self.assertEqual((costs, costs[0]), (sorted(costs), 7))

    def test_ties_of_cost_by_words_and_by_trees(self):
        tongue = Tongue(pairing([stem("c", "n", "p"), stem("b", "n", "p"), stem("a", "n", "p")], 0, (1, 0, [])))
        got = ways(tongue, node("p", ("by", leaf("p"))))
        self.assertEqual(got, sorted(got))
        self.assertEqual(len(got), 18)
        self.assertEqual(best_way(tongue, node("p", ("by", leaf("p")))), got[0])
        self.assertEqual(words_of(tongue, got[0]), ["c", "c"])
        self.assertEqual(sayings(tongue, node("p", ("by", leaf("p")))),
                         [(0, row) for row in itertools.product("abc", repeat=2)])
        self.assertEqual(best_saying(tongue, node("p", ("by", leaf("p")))), ("a", "a"))

    def test_the_least_words_where_one_row_begins_another(self):
        # p is said "b" or "b a", at one cost: which of them is less hangs on what comes behind.
        kinds = [("s", [], False, False), ("n", [], False, False), ("k", [], False, False), ("m", [], False, True),
                 ("e", [], False, True)]
        for end, want in (("a", ("b", "a", "a")), ("c", ("b", "a", "c")), ("b", ("b", "a", "b"))):
            stems = [stem("b", "n", "p"), stem("b", "k", "p"), stem("a", "m", ""), stem(end, "e", "")]
            told = one_rule(("top", 0, "s", {}, [("head", "n", {}, False), ("-", "e", {}, False)], [], (0, 0, [])), kinds, stems)
            told["rules"].append(("long", 0, "n", {}, [("head", "k", {}, False), ("-", "m", {}, False)], [], (0, 0, [])))
            tongue = Tongue(told)
            rows = [words for _, words in sayings(tongue, leaf("p"))]
            self.assertEqual(rows, sorted([("b", end), ("b", "a", end)]))
            self.assertEqual(best_saying(tongue, leaf("p")), rows[0])
            self.assertIn(want, rows)
        self.assertEqual(best_saying(Tongue({**told, "start": "n"}), leaf("p")), ("b",))

    def test_rows_given_as_a_list_and_as_a_tuple(self):
        tongue = Tongue(small())
        for cost, words in sayings(tongue, CATS_SEE_A_DOG):
            self.assertIs(shows_saying(tongue, words, CATS_SEE_A_DOG), True)
            self.assertIs(shows_saying(tongue, list(words), CATS_SEE_A_DOG), True)
            self.assertIs(shows_saying(tongue, words[:-1], CATS_SEE_A_DOG), False)
            self.assertIs(shows_saying(tongue, [*words, "now"], CATS_SEE_A_DOG), False)
        dogs = see("pl", "now", ("by", noun("cat", "pl")), ("to", noun("dog", "pl")))
        for words in ("the cats see the dogs", "the dogs the cats see"):
            self.assertIs(shows_saying(tongue, words.split(), dogs), True)
            self.assertIs(shows_saying(tongue, words.split(), CATS_SEE_A_DOG), False)
        self.assertIs(shows_saying(tongue, ["zzz"], dogs), False)

    def test_a_row_of_more_readings_than_can_be_listed(self):
        tongue = Tongue(pairing([stem("a", "n", "p"), stem("a", "n", "q")], 0, (1, 0, [])))
        for meaning in (node("p", *[("by", leaf("q"))] * 13), node("q", *[("by", leaf("p"))] * 12, ("by", leaf("q")))):
            self.assertIs(shows_saying(tongue, ["a"] * 14, meaning), True)
            self.assertIs(shows_saying(tongue, ["a"] * 13, meaning), False)
        self.assertIs(shows_saying(tongue, ["a"] * 14, node("p", *[("of", leaf("q"))] * 13)), False)


class Many(unittest.TestCase):
    def test_more_ways_than_can_be_listed(self):
        tongue = Tongue(pairing([stem("b", "n", "p"), stem("a", "n", "p")], 1, (1, 0, [])))
        meaning = node("p", *[("by", leaf("p"))] * 23)
        self.assertEqual(nodes_of(meaning), 24)
        self.assertEqual(count_ways(tongue, meaning), 2 ** 24 * 2 ** 23)
        best = best_way(tongue, meaning)
        self.assertEqual((is_sentence(tongue, best), meaning_of(tongue, best), cost_of(tongue, best)), (True, meaning, 23))
        want = ("word", 0, 0)
        for _ in range(23):
            want = ("rule", 0, (0, 1), (want, ("word", 0, 0)))
        self.assertEqual(best, want)
        self.assertEqual(best_saying(tongue, meaning), ("a",) * 24)

    def test_deep_meanings(self):
        tongue = Tongue(pairing([stem("a", "n", "p"), stem("b", "n", "p", 2)], 0, (1, 3, [])))
        meaning = leaf("p")
        for _ in range(23):
            meaning = node("p", ("by", meaning))
        self.assertEqual(count_ways(tongue, meaning), 2 ** 24 * 2 ** 23)
        self.assertEqual(cost_of(tongue, best_way(tongue, meaning)), 0)
        self.assertEqual(best_saying(tongue, meaning), ("a",) * 24)

    def test_unlike_pairs_in_all_orders(self):
        letters = "bcdefghijk"
        tongue = Tongue(pairing([stem(letter, "n", letter) for letter in "a" + letters], 0, (1, 0, [])))
        meaning = node("a", *[("by", leaf(letter)) for letter in letters])
        self.assertEqual(count_ways(tongue, meaning), math.factorial(10) * 2 ** 10)
        self.assertEqual(best_saying(tongue, meaning), tuple("abcdefghijk"))
        best = best_way(tongue, meaning)
        self.assertEqual(words_of(tongue, best), ["a", *letters])

    def test_counts_near_the_bound(self):
        # 100 words of one meaning, joined to a hundred others each: 10,000 instances.
        features = [("fa", ["va", "vb", "vc", "vd"], False), ("fb", ["va", "vb", "vc", "vd", "ve"], False),
                    ("fc", ["va", "vb", "vc", "vd", "ve"], False)]
        stems = [("a", "n", "x", "p", {"fa": one, "fb": other}, 0) for one in features[0][1] for other in features[1][1]]
        rule = ("r", 0, "n", {}, [("head", "n", {}, False), ("by", "n", {}, False)],
                [[(-1, name), (0, name)] for name in ("fa", "fb", "fc")], (1, 0, []))
        told = {**one_rule(rule, [("n", ["fa", "fb", "fc"], False, False)], stems, features),
                "endings": [("x", "", {"fc": value}, 0) for value in features[2][1]]}
        tongue = Tongue(told)
        meaning = node("p", *[("by", leaf("p"))] * 23)
        self.assertEqual(count_ways(tongue, meaning), 100 ** 24 * 2 ** 23)
        self.assertEqual(best_saying(tongue, meaning), ("a",) * 24)

    def test_holes_in_wide_meanings(self):
        kinds = [("s", [], False, False), ("n", [], True, False)]
        told = {**one_rule(("of", 1, "n", {}, [("head", "n", {}, True), ("of", "n", {}, True)], [], (1, 0, [])), kinds,
                           [stem("a", "n", "p"), stem("b", "n", "q")]), "start": "s"}
        told["rules"].append(("top", 0, "s", {}, [("head", "n", {}, False)], [], (0, 0, [])))
        told["rules"].append(("front", 4, "s", {}, [("fill", "n", {}, False), ("host", "n", {}, True)], [], (1, 1, [])))
        tongue = Tongue(told)
        for many in (1, 2, 3):
            meaning = node("p", *[("of", leaf("q"))] * many)
            self.assertEqual(count_ways(tongue, meaning), len(Plain(told).ways(meaning)))
        meaning = node("p", *[("of", leaf("q"))] * 22, ("of", leaf("p")))
        best = best_way(tongue, meaning)
        self.assertEqual((meaning_of(tongue, best), cost_of(tongue, best)), (meaning, 23))
        self.assertGreater(count_ways(tongue, meaning), 23 * 2 ** 23)

    def test_wide_meanings_with_an_atom_or_a_role_of_no_tongue(self):
        # Far too many pieces of them could be said.
        letters = "bcdefghijklmnopqrstuvw"
        tongue = Tongue(pairing([stem(letter, "n", letter) for letter in "a" + letters], 0, (1, 0, [])))
        pairs = [("by", leaf(letter)) for letter in letters]
        for more in (("by", leaf("z")), ("to", leaf("a")), ("by", ("b", (("num", "sg"),), ())), ("by", HOLE)):
            meaning = node("a", *pairs, more)
            self.assertEqual((ways(tongue, meaning), count_ways(tongue, meaning), best_way(tongue, meaning)), ([], 0, None))
            self.assertEqual((sayings(tongue, meaning), best_saying(tongue, meaning)), ([], None))
            self.assertEqual(ways_as(tongue, meaning, ("n", (), ())), [])

    def test_parts_beside_one_that_has_no_trees_are_not_listed(self):
        # The wide meaning by itself has far too many ways, and what stands beside it none.
        told = pairing([stem("a", "n", "p"), stem("b", "n", "p")], 0, (1, 0, []))
        told["kinds"] += [("s", [], False, False), ("k", [], False, False)]
        told["rules"].append(("top", 0, "s", {}, [("head", "n", {}, False), ("to", "k", {}, False)], [], (0, 0, [])))
        tongue = Tongue({**told, "start": "s"})
        meaning = node("p", *[("by", leaf("p"))] * 22, ("to", leaf("p")))
        self.assertEqual((ways(tongue, meaning), sayings(tongue, meaning), best_saying(tongue, meaning)), ([], [], None))


class Kept(unittest.TestCase):
    def test_nothing_told_counts_later(self):
        told = small()
        tongue = Tongue(told)
        symbol = ("s", ("now",), ())
        asks = [lambda: ways(tongue, CATS_SEE_A_DOG), lambda: sayings(tongue, CATS_SEE_A_DOG),
                lambda: ways_as(tongue, CATS_SEE_A_DOG, symbol)]
        want = [list(ask()) for ask in asks]
        self.assertTrue(all(want))
        for ask in asks:
            got = ask()
            got.reverse()
            got.append("x")
        for name in ("stems", "rules", "kinds", "features", "endings"):
            told[name].clear()
        self.assertEqual([ask() for ask in asks], want)

    def test_words_are_not_changed(self):
        words = "a dog the cats see".split()
        self.assertIs(shows_saying(Tongue(small()), words, CATS_SEE_A_DOG), True)
        self.assertEqual(words, "a dog the cats see".split())

    def test_what_was_told_may_be_handed_in_again(self):
        tongue = Tongue(small())
        for words in ("the cats now see a dog now", "i saw the city", "the cities i saw"):
            for meaning in meanings_for(tongue, words.split()):
                for cost, row in sayings(tongue, meaning):
                    self.assertIn(meaning, meanings_for(tongue, row))
                self.assertIn(tuple(words.split()), [row for cost, row in sayings(tongue, meaning)])

    def test_they_are_defined_in_their_file(self):
        for name in ("ways", "ways_as", "count_ways", "best_way", "sayings", "best_saying", "shows_saying"):
            self.assertEqual(getattr(saying_file, name).__module__, "speechloom.saying")


class All(unittest.TestCase):
    def test_as_a_plain_teller_tells(self):
        chance = random.Random(3)
        asked = said = 0
        for told, tongue in tongues(3, 50):
            plain = Plain(told)
            for meaning in self.meanings(chance, told, tongue):
                trees = plain.trees_meaning(meaning)
                if sum(len(found) for found in trees.values()) <= 2000:
                    asked += 1
                    said += self.check(told, tongue, plain, meaning, trees)
        self.assertGreater(asked, 500)
        self.assertGreater(said, 100)

    def meanings(self, chance, told, tongue):
        """Meanings of trees of some words, and what comes of them by a change."""
        texts = sorted({row[0] for row in forms(tongue)})
        mute = [kind[0] for kind in told["kinds"] if kind[3]]
        found = set()
        for many in range(1, 5):
            rows = list(itertools.product(texts, repeat=many))
            for words in chance.sample(rows, min(2, len(rows))):
                trees = [tree for symbol in sayable(tongue) if symbol[0] not in mute
                         for tree in readings_as(tongue, words, symbol)]
                found.update(meaning_of(tongue, tree) for tree in chance.sample(trees, min(3, len(trees))))
        found = [meaning for meaning in sorted(found) if nodes_of(meaning) <= 5]
        return found + [self.changed(chance, meaning) for meaning in found]

    def changed(self, chance, meaning):
        atom, marks, pairs = meaning
        at = chance.randrange(len(pairs)) if pairs else None
        how = chance.random()
        if how < 0.2 or at is None:
            return ("", (), pairs) if how < 0.1 else (chance.choice("pq"), marks, pairs)
        if how < 0.5:
            return (atom, marks, pairs[:at] + pairs[at + 1:])
        if how < 0.7:
            return (atom, marks, tuple(sorted([*pairs, pairs[at]])))
        inner = (pairs[at][0], self.changed(chance, pairs[at][1]))
        return (atom, marks, tuple(sorted([*pairs[:at], inner, *pairs[at + 1:]])))

    def check(self, told, tongue, plain, meaning, trees):
        """How many ways there are."""
        mute = [kind[0] for kind in told["kinds"] if kind[3]]
        want, rows = plain.ways(meaning), plain.sayings(meaning)
        self.assertEqual(ways(tongue, meaning), want, (told, meaning))
        self.assertEqual(count_ways(tongue, meaning), len(want))
        self.assertEqual(best_way(tongue, meaning), want[0] if want else None)
        self.assertEqual(sayings(tongue, meaning), rows)
        self.assertEqual(best_saying(tongue, meaning), rows[0][1] if rows else None)
        for symbol in sayable(tongue):
            if symbol[0] not in mute:
                self.assertEqual(ways_as(tongue, meaning, symbol), trees.get(symbol, []), (told, meaning, symbol))
        for cost, words in rows[:2]:
            self.assertIs(shows_saying(tongue, words, meaning), True)
            found = [tree for tree in readings(tongue, words) if meaning_of(tongue, tree) == meaning]
            self.assertTrue(found and all(tree in want for tree in found))
            self.assertIs(shows_saying(tongue, words[::-1], meaning), meaning in meanings_for(tongue, words[::-1]))
        return len(want)


if __name__ == "__main__":
    unittest.main()
