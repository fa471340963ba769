"""[16]: begins, coming, fewest_more, shows_coming."""

import itertools
import random
import unittest

from helper import Plain, one_rule, pairing, small, stem, tongues
from speechloom import coming as coming_file
from speechloom.coming import begins, coming, fewest_more, shows_coming
from speechloom.reading import count_readings, readings
from speechloom.tongues import Tongue
from speechloom.trees import words_of
from speechloom.words import forms

A_DOG = ("rule", 1, (0, 1), (("word", 4, 2), ("word", 2, 0)))
THE_CATS = ("rule", 1, (0, 1), (("word", 3, 4), ("word", 0, 1)))
CATS_SEE_A_DOG = ("rule", 0, (0, 1), (THE_CATS, ("rule", 2, (0, 1), (("word", 6, 7), A_DOG))))


class Small(unittest.TestCase):
    def setUp(self):
        self.tongue = Tongue(small())

    def ask(self, text):
        return coming(self.tongue, text.split())

    def check_fewest(self, text, number):
        words = text.split()
        got = fewest_more(self.tongue, words)
        self.assertEqual((got[0], len(got[1]), isinstance(got, tuple), isinstance(got[1], list)), (number, number, True, True))
        self.assertGreater(count_readings(self.tongue, words + got[1]), 0)

    def test_no_words_yet(self):
        self.assertEqual(self.ask(""), (["a", "i", "the"], False))
        self.assertIs(begins(self.tongue, []), True)
        self.assertIs(begins(self.tongue, ()), True)
        self.check_fewest("", 3)

    def test_words_that_begin_nothing(self):
        for text in ("see", "cat", "zzz", "the zzz", "the cats sees", "a cats", "the cats see a dog a", "now", "the the",
                     "i see i i", "the cats see the dog the", "a dog sees the cats i"):
            self.assertEqual(self.ask(text), ([], False), text)
            self.assertIs(begins(self.tongue, text.split()), False)
            self.assertIsNone(fewest_more(self.tongue, text.split()))

    def test_words_that_begin_something(self):
        for text, want, number in (
                ("the", ["cat", "cats", "cities", "city", "dog", "dogs"], 3),
                ("a", ["cat", "city", "dog"], 3),
                # Behind it a verb, or what sees, as it may be fronted.
                ("the cats", ["a", "i", "now", "saw", "see", "the"], 2),
                ("a dog", ["a", "i", "now", "saw", "sees", "the"], 2),
                ("a dog i", ["now", "saw", "see"], 1),
                ("the cats now", ["now", "saw", "see"], 2),
                # What is fronted fits one gap alone: nothing may come to be seen.
                ("a dog the", ["cat", "cats", "cities", "city", "dog", "dogs"], 2),
                ("i see", ["a", "i", "the"], 1),
                ("the cats see a", ["cat", "city", "dog"], 1)):
            self.assertEqual(self.ask(text), (want, False), text)
            self.assertIs(begins(self.tongue, text.split()), True)
            self.check_fewest(text, number)

    def test_sentences_that_may_go_on(self):
        for text in ("the cats see a dog", "a dog the cats see", "the cats now see i now now now"):
            self.assertEqual(self.ask(text), (["now"], True))
            self.assertIs(begins(self.tongue, text.split()), True)
            self.assertEqual(fewest_more(self.tongue, text.split()), (0, []))

    def test_sentences_that_may_not_go_on(self):
        told = small()
        del told["rules"][4]
        tongue = Tongue(told)
        for text in ("the cats see a dog", "a dog the cats see"):
            self.assertEqual(coming(tongue, text.split()), ([], True))
            self.assertIs(begins(tongue, text.split()), True)
            self.assertEqual(fewest_more(tongue, tuple(text.split())), (0, []))

    def test_one_more_only_where_it_agrees(self):
        # What is heard ahead of a verb tells its number and person.
        self.assertEqual(self.ask("i"), (["a", "i", "now", "saw", "see", "the"], False))
        self.assertNotIn("sees", self.ask("the cats now now")[0])
        self.assertIn("sees", self.ask("the cat now now")[0])

    def test_rising_without_doubles(self):
        # saw has three forms of one text, the has two.
        for text in ("the cats", "i", "i see", ""):
            got = self.ask(text)[0]
            self.assertEqual(got, sorted(set(got)))

    def test_a_list_and_a_tuple(self):
        for text in ("the cats", "the cats see a dog", "zzz", ""):
            words = text.split()
            for ask in (begins, coming, fewest_more):
                self.assertEqual(ask(self.tongue, words), ask(self.tongue, tuple(words)))
            self.assertEqual(words, text.split())

    def test_tongues_of_no_sentence(self):
        for change in ({"stems": []}, {"rules": []}, {"endings": []}):
            tongue = Tongue({**small(), **change})
            for words in ([], ["the"], ["i"]):
                self.assertEqual(coming(tongue, words), ([], False))
                self.assertIs(begins(tongue, words), False)
                self.assertIsNone(fewest_more(tongue, words))

    def test_sentences_of_one_word(self):
        tongue = Tongue({**small(), "start": "adv"})
        self.assertEqual(coming(tongue, []), (["now"], False))
        self.assertEqual(fewest_more(tongue, []), (1, ["now"]))
        self.assertEqual(coming(tongue, ["now"]), ([], True))


class Gaps(unittest.TestCase):
    def test_a_fill_still_to_come(self):
        # What fills stands behind what it fills.
        told = small()
        rule = told["rules"][3]
        told["rules"][3] = (*rule[:4], [rule[4][1], rule[4][0]], [[(-1, "tense"), (0, "tense")]], rule[6])
        tongue = Tongue(told)
        self.assertEqual(coming(tongue, "i see".split()), (["a", "i", "now", "the"], False))
        # A gap, then what is said when, then the fill.
        self.assertEqual(coming(tongue, "i see now".split()), (["a", "i", "now", "the"], False))
        self.assertEqual(fewest_more(tongue, "i see now".split()), (1, ["i"]))
        self.assertEqual(coming(tongue, "i see now a".split()), (["cat", "city", "dog"], False))
        self.assertEqual(coming(tongue, "i see now a dog".split()), ([], True))

    def test_a_gap_that_nothing_fills(self):
        told = small()
        del told["rules"][3]
        tongue = Tongue(told)
        self.assertEqual(coming(tongue, "the cats".split()), (["now", "saw", "see"], False))
        self.assertEqual(coming(tongue, "i see".split()), (["a", "i", "the"], False))
        self.assertIs(begins(tongue, "i see now".split()), False)

    def test_a_gap_of_values_that_only_words_to_come_have(self):
        # The host has a gap of the kind n; the fill behind it must be pl, of which there is one word alone.
        features = [("num", ["sg", "pl"], True)]
        kinds = [("s", [], False, False), ("n", ["num"], True, False), ("v", [], False, False), ("c", [], False, False)]
        told = one_rule(("fill", 0, "s", {}, [("host", "c", {}, True), ("fill", "n", {"num": ["pl"]}, False)], [], (0, 0, [])),
                        kinds, [("a", "n", "x", "p", {"num": "sg"}, 0), ("b", "n", "x", "q", {"num": "pl"}, 0),
                                ("v", "v", "x", "v", {}, 0)], features)
        told["rules"].append(("c", 0, "c", {}, [("head", "v", {}, False), ("to", "n", {}, True)], [], (1, 0, [])))
        tongue = Tongue(told)
        self.assertEqual(coming(tongue, []), (["v"], False))
        self.assertEqual(coming(tongue, ["v"]), (["b"], False))
        self.assertEqual(fewest_more(tongue, ["v"]), (1, ["b"]))
        self.assertEqual(coming(tongue, ["v", "b"]), ([], True))
        self.assertIs(begins(tongue, ["v", "a"]), False)


class Long(unittest.TestCase):
    def doubling(self, depth):
        """A tongue whose one sentence has 2 ** depth words."""
        names = ["k" + letter for letter in "abcdefghijkl"[:depth + 1]]
        kinds = [(name, [], False, False) for name in names]
        rules = [("r" + name, 0, name, {}, [("head", other, {}, False), ("by", other, {}, False)], [], (0, 0, []))
                 for name, other in zip(names, names[1:])]
        return Tongue({"features": [], "kinds": kinds, "seams": [], "stems": [stem("a", names[-1], "p")],
                       "endings": [("x", "", {}, 0)], "rules": rules, "start": names[0]})

    def test_many_words_behind(self):
        for depth in (1, 4, 7):
            tongue = self.doubling(depth)
            self.assertEqual(fewest_more(tongue, []), (2 ** depth, ["a"] * 2 ** depth))
            self.assertEqual(coming(tongue, ["a"]), (["a"], False))
            most = min(14, 2 ** depth)
            self.assertEqual(fewest_more(tongue, ["a"] * most), (2 ** depth - most, ["a"] * (2 ** depth - most)))
        self.assertEqual(coming(self.doubling(3), ["a"] * 8), ([], True))
        self.assertIs(begins(self.doubling(3), ["a"] * 9), False)

    def test_sentences_of_any_length(self):
        tongue = Tongue(pairing([stem("a", "n", "p"), stem("b", "n", "q")], 0, (1, 0, [])))
        for many in range(15):
            words = list("abbabaabbabaab"[:many])
            self.assertEqual(coming(tongue, words), (["a", "b"], many > 0))
            self.assertEqual(fewest_more(tongue, words), (0, []) if words else (1, ["a"]))

    def test_rules_that_go_round_within_what_is_to_come(self):
        # x is closed by e alone, and may stand within itself behind its head.
        kinds = [("x", [], False, False), ("h", [], False, False), ("e", [], False, True)]
        told = one_rule(("r", 0, "x", {}, [("head", "h", {}, False), ("by", "x", {}, False), ("-", "e", {}, False)], [], (0, 0, [])),
                        kinds, [stem("h", "h", "p"), stem("e", "e", "")])
        self.assertIs(begins(Tongue(told), []), False)
        self.assertIsNone(fewest_more(Tongue(told), ["h"]))
        told["rules"].append(("q", 0, "x", {}, [("head", "h", {}, False)], [], (0, 0, [])))
        tongue = Tongue(told)
        for many in range(1, 14):
            self.assertEqual(fewest_more(tongue, ["h"] * many), (many - 1, ["e"] * (many - 1)))
            self.assertEqual(coming(tongue, ["h"] * many), (["e", "h"] if many > 1 else ["h"], many == 1))
        self.assertEqual(coming(tongue, ["h", "h", "e"]), ([], True))


class Shows(unittest.TestCase):
    def setUp(self):
        self.tongue = Tongue(small())
        self.words = "the cats see a dog".split()

    def test_with_a_word(self):
        for many in range(5):
            for words in (self.words[:many], tuple(self.words[:many])):
                self.assertIs(shows_coming(self.tongue, words, self.words[many], CATS_SEE_A_DOG), True)
                self.assertIs(shows_coming(self.tongue, words, "zzz", CATS_SEE_A_DOG), False)
                self.assertIs(shows_coming(self.tongue, words, None, CATS_SEE_A_DOG), False)
        self.assertIs(shows_coming(self.tongue, ["a"], "cats", CATS_SEE_A_DOG), False)
        self.assertIs(shows_coming(self.tongue, self.words, "now", CATS_SEE_A_DOG), False)

    def test_with_none(self):
        for words in (self.words, tuple(self.words)):
            self.assertIs(shows_coming(self.tongue, words, None, CATS_SEE_A_DOG), True)
        for words in (self.words[:4], [*self.words, "now"], [], self.words[::-1]):
            self.assertIs(shows_coming(self.tongue, words, None, CATS_SEE_A_DOG), False)

    def test_trees_that_are_no_sentences(self):
        self.assertIs(shows_coming(self.tongue, ["a"], "dog", A_DOG), False)
        self.assertIs(shows_coming(self.tongue, ["a", "dog"], None, A_DOG), False)
        self.assertIs(shows_coming(self.tongue, [], None, ("gap", "np", ("sg", "three"))), False)
        gapped = ("rule", 0, (0, 1), (THE_CATS, ("rule", 2, (0, 1), (("word", 6, 7), ("gap", "np", ("sg", "three"))))))
        self.assertIs(shows_coming(self.tongue, ["the", "cats"], "see", gapped), False)
        self.assertIs(shows_coming(self.tongue, ["the", "cats", "see"], None, gapped), False)

    def test_trees_of_any_numbers_and_texts(self):
        for tree in (("word", 99, 0), ("word", 0, -99), ("gap", "none", ()), ("gap", "", ("x", "y")),
                     ("rule", 99, (0, 1), (A_DOG, A_DOG)), ("rule", -5, (0, 1), CATS_SEE_A_DOG[3]), ("rule", 0, (), ()),
                     ("rule", 0, (1, 0), CATS_SEE_A_DOG[3]), ("rule", 0, (0, 99), CATS_SEE_A_DOG[3]),
                     ("rule", 0, (0, 1), (*CATS_SEE_A_DOG[3], A_DOG)), ("rule", 0, (0, 1), (("word", -9, 10 ** 20), A_DOG))):
            for word in ("see", None, ""):
                self.assertIs(shows_coming(self.tongue, ["the", "cats"], word, tree), False, tree)


class Kept(unittest.TestCase):
    def test_nothing_told_counts_later(self):
        told = small()
        tongue = Tongue(told)
        words = ["the", "cats"]
        want = (list(coming(tongue, words)[0]), list(fewest_more(tongue, words)[1]), fewest_more(tongue, [])[1][:])
        coming(tongue, words)[0].clear()
        fewest_more(tongue, words)[1].append("x")
        fewest_more(tongue, [])[1].clear()
        for name in ("stems", "rules", "kinds", "features", "endings"):
            told[name].clear()
        self.assertEqual((coming(tongue, words)[0], fewest_more(tongue, words)[1], fewest_more(tongue, [])[1]), want)
        self.assertEqual(words, ["the", "cats"])

    def test_told_the_same_whatever_was_asked_ahead(self):
        rows = ["", "the cats", "a dog i", "zzz", "i see a dog", "the cats see a"]
        asks = (begins, coming, fewest_more)
        fresh = {row: [ask(Tongue(small()), row.split()) for ask in asks] for row in rows}
        tongue = Tongue(small())
        for row in [*rows, *reversed(rows)]:
            self.assertEqual([ask(tongue, row.split()) for ask in asks], fresh[row])
            readings(tongue, row.split())

    def test_they_are_defined_in_their_file(self):
        for name in ("begins", "coming", "fewest_more", "shows_coming"):
            self.assertEqual(getattr(coming_file, name).__module__, "speechloom.coming")


class All(unittest.TestCase):
    MOST = 4

    def test_as_a_plain_teller_tells(self):
        chance = random.Random(5)
        told_of = beginning = 0
        for told, tongue in tongues(5, 60):
            # The plain teller needs long for many words and many orders.
            if len(forms(tongue)) > 8 or any(len(rule[4]) > 3 for rule in told["rules"]):
                continue
            rows = Plain(told).rows_of(self.MOST)
            texts = [*sorted({row[0] for row in forms(tongue)}), "z"]
            asked = [words for many in range(3) for words in itertools.product(texts, repeat=many)]
            asked += chance.sample(sorted(rows), min(4, len(rows)))
            for words in asked:
                beginning += self.check(tongue, words, [row[len(words):] for row in rows if row[:len(words)] == words])
            told_of += len(asked)
        self.assertGreater(told_of, 500)
        self.assertGreater(beginning, 150)

    def check(self, tongue, words, behind):
        """Whether words are told to begin something; behind are all rows behind them of not too many words."""
        is_beginning, (nexts, is_whole), fewest = begins(tongue, words), coming(tongue, words), fewest_more(tongue, words)
        self.assertIs(is_beginning, fewest is not None)
        self.assertIs(is_beginning, (nexts, is_whole) != ([], False))
        self.assertIs(is_whole, () in behind)
        self.assertEqual(nexts, sorted(set(nexts)))
        firsts = {row[0] for row in behind if row}
        self.assertLessEqual(firsts, set(nexts))
        for word in set(nexts) - firsts:
            number, row = fewest_more(tongue, [*words, word])
            self.assertGreater(len(words) + 1 + number, self.MOST)
            self.assertTrue(readings(tongue, [*words, word, *row]))
        if fewest is not None:
            number, row = fewest
            trees = readings(tongue, [*words, *row])
            self.assertEqual((number, bool(trees)), (len(row), True))
            least = min([len(row) for row in behind], default=None)
            self.assertTrue(number == least or (least is None and len(words) + number > self.MOST))
            self.assertIs(shows_coming(tongue, words, row[0] if row else None, trees[0]), True)
            self.assertEqual(words_of(tongue, trees[0])[:len(words)], list(words))
        return is_beginning


if __name__ == "__main__":
    unittest.main()
