"""[17]: turned, best_turned, shows_turned."""

import unittest

from helper import pairing, small, stem, tongues
from speechloom import turning as turning_file
from speechloom.meanings import nodes_of
from speechloom.reading import best_reading, meanings_for, readings
from speechloom.saying import best_saying, sayings
from speechloom.tongues import Tongue
from speechloom.trees import meaning_of, words_of
from speechloom.turning import best_turned, shows_turned, turned
from speechloom.words import forms


def other():
    """A tongue that means what small means, but that nouns have no number of their own: "katu vidat na hundo"."""
    return {
        "features": [("tense", ["now", "past"], True), ("num", ["sg", "pl"], True)],
        "kinds": [("s", ["tense"], False, False), ("n", ["num"], False, False), ("v", ["num", "tense"], False, False),
                  ("acc", [], False, True)],
        "seams": [("o", "i", "i")],
        "stems": [("kato", "n", "noun", "cat", {}, 0), ("hundo", "n", "noun", "dog", {}, 0), ("mi", "n", "one", "me", {}, 0),
                  ("vid", "v", "verb", "see", {}, 0), ("na", "acc", "bare", "", {}, 0)],
        "endings": [("noun", "", {"num": "sg"}, 0), ("noun", "i", {"num": "pl"}, 1), ("one", "", {"num": "sg"}, 0),
                    ("verb", "as", {"num": "sg", "tense": "now"}, 0), ("verb", "as", {"num": "pl", "tense": "now"}, 0),
                    ("verb", "is", {"num": "sg", "tense": "past"}, 0), ("bare", "", {}, 0)],
        "rules": [("all", 1, "s", {}, [("by", "n", {}, False), ("head", "v", {}, False), ("-", "acc", {}, False),
                                       ("to", "n", {}, False)],
                   [[(0, "num"), (1, "num")], [(-1, "tense"), (1, "tense")]], (3, 2, [(2, 3)]))],
        "start": "s",
    }


def noun(atom, num="sg"):
    return (atom, (("num", num),), ())


CATS_SEE_A_DOG = ("see", (("num", "pl"), ("tense", "now")), (("by", noun("cat", "pl")), ("to", noun("dog"))))


class Turned(unittest.TestCase):
    def setUp(self):
        self.one, self.other = Tongue(small()), Tongue(other())

    def test_one_meaning(self):
        words = "the cats see a dog".split()
        got = turned(self.one, self.other, words)
        self.assertEqual(got, [(CATS_SEE_A_DOG, sayings(self.other, CATS_SEE_A_DOG))])
        self.assertEqual(got[0][1][0], (2, ("kati", "vidas", "na", "hundo")))
        self.assertEqual(len(got[0][1]), 12)
        self.assertEqual(best_turned(self.one, self.other, words), ("kati", "vidas", "na", "hundo"))
        self.assertEqual(turned(self.one, self.other, tuple(words)), got)

    def test_back_again(self):
        got = best_turned(self.other, self.one, "kati vidas na hundo".split())
        self.assertEqual(got, ("the", "cats", "see", "a", "dog"))
        # What stands in front may be seen, too, but at a greater cost.
        words = "na hundo vidas kati".split()
        self.assertEqual(best_turned(self.other, self.one, words), ("a", "dog", "sees", "the", "cats"))
        self.assertEqual(sorted(rows[0][1] for _, rows in turned(self.other, self.one, words)),
                         [("a", "dog", "sees", "the", "cats"), got])

    def test_one_tongue_as_both(self):
        words = "a dog the cats see".split()
        self.assertEqual(turned(self.one, self.one, words), [(CATS_SEE_A_DOG, sayings(self.one, CATS_SEE_A_DOG))])
        self.assertEqual(best_turned(self.one, self.one, words), ("the", "cats", "see", "a", "dog"))

    def test_words_with_no_reading(self):
        for words in ([], ["zzz"], "the cats sees a dog".split(), ["kati"], ()):
            self.assertEqual(turned(self.one, self.other, words), [])
            self.assertIsNone(best_turned(self.one, self.other, words))

    def test_meanings_that_the_other_cannot_say(self):
        for text in ("the cats saw a dog", "the cats see a city", "i see a dog now"):
            words = text.split()
            self.assertEqual(turned(self.one, self.other, words), [(meaning, []) for meaning in meanings_for(self.one, words)])
            self.assertEqual(len(turned(self.one, self.other, words)), 1)
            self.assertIsNone(best_turned(self.one, self.other, words))

    def test_several_meanings(self):
        # Free orders: each of both may see; the other tongue says one of them alone where it has no atom.
        one = Tongue(pairing([stem("a", "n", "p"), stem("b", "n", "q")], 0, (1, 1, [])))
        twin = Tongue(pairing([stem("x", "n", "q"), stem("y", "n", "p", 4)], 0, (0, 0, [])))
        meanings = [("p", (), (("by", ("q", (), ())),)), ("q", (), (("by", ("p", (), ())),))]
        self.assertEqual(turned(one, twin, ["a", "b"]),
                         [(meanings[0], [(4, ("y", "x"))]), (meanings[1], [(4, ("x", "y"))])])
        # The best reading has no stir: p is the head.
        self.assertEqual(best_turned(one, twin, ["a", "b"]), ("y", "x"))
        self.assertEqual(best_turned(one, twin, ["b", "a"]), ("x", "y"))
        twin = Tongue(pairing([stem("x", "n", "q")], 0, (0, 0, [])))
        self.assertEqual(turned(one, twin, ["a", "b"]), [(meanings[0], []), (meanings[1], [])])

    def test_the_best_reading_alone_counts_for_the_best(self):
        # The second meaning could be said, the best reading's can't.
        one = Tongue(pairing([stem("a", "n", "p", 1), stem("a", "n", "q", 2)]))
        twin = Tongue(pairing([stem("x", "n", "q")]))
        self.assertEqual(turned(one, twin, ["a"]), [(("p", (), ()), []), (("q", (), ()), [(0, ("x",))])])
        self.assertIsNone(best_turned(one, twin, ["a"]))


class Shows(unittest.TestCase):
    def setUp(self):
        self.one, self.other = Tongue(small()), Tongue(other())
        self.words, self.row = "the cats see a dog".split(), "kati vidas na hundo".split()
        self.tree, self.twin = readings(self.one, self.words)[0], readings(self.other, self.row)[0]

    def test_of_one_meaning(self):
        self.assertIs(shows_turned(self.one, self.other, self.words, self.row, self.tree, self.twin), True)
        self.assertIs(shows_turned(self.one, self.other, tuple(self.words), tuple(self.row), self.tree, self.twin), True)
        self.assertIs(shows_turned(self.other, self.one, self.row, self.words, self.twin, self.tree), True)
        self.assertIs(shows_turned(self.one, self.one, self.words, self.words, self.tree, self.tree), True)

    def test_of_unlike_meanings(self):
        for text in ("hundo vidas na hundo", "kati vidas na kati"):
            twin = readings(self.other, text.split())[0]
            self.assertIs(shows_turned(self.one, self.other, self.words, text.split(), self.tree, twin), False)

    def test_of_other_words(self):
        for words in (self.words[::-1], self.words[:-1], [], self.row):
            self.assertIs(shows_turned(self.one, self.other, words, self.row, self.tree, self.twin), False)
        for row in (self.row[::-1], [*self.row, "na"], [], self.words):
            self.assertIs(shows_turned(self.one, self.other, self.words, row, self.tree, self.twin), False)

    def test_of_trees_that_cannot_stand(self):
        for tree in (("word", 99, 0), ("word", 0, -3), ("gap", "none", ()), ("rule", 77, (), ()), ("rule", 0, (), ()),
                     ("rule", 0, (1, 0), self.tree[3]), ("rule", -1, (0, 1), self.tree[3]), self.tree[3][0]):
            self.assertIs(shows_turned(self.one, self.other, self.words, self.row, tree, self.twin), False, tree)
            self.assertIs(shows_turned(self.other, self.one, self.row, self.words, self.twin, tree), False, tree)
        self.assertIs(shows_turned(self.one, self.other, self.words, self.row, self.twin, self.tree), False)


class Kept(unittest.TestCase):
    def test_nothing_told_counts_later(self):
        one, twin = Tongue(small()), Tongue(other())
        words = "the cats see a dog".split()
        got = turned(one, twin, words)
        want = [(meaning, list(rows)) for meaning, rows in got]
        got[0][1].clear()
        got.clear()
        self.assertEqual(turned(one, twin, words), want)
        self.assertEqual(words, "the cats see a dog".split())

    def test_they_are_defined_in_their_file(self):
        for name in ("turned", "best_turned", "shows_turned"):
            self.assertEqual(getattr(turning_file, name).__module__, "speechloom.turning")


class All(unittest.TestCase):
    def test_meanings_and_their_sayings(self):
        found = tongues(9, 40)
        said = 0
        for (_, one), (_, twin) in zip(found, found[1:] + found[:1]):
            texts = sorted({row[0] for row in forms(one)})
            for words in [[text, more] for text in texts for more in texts] + [[text] for text in texts]:
                if any(nodes_of(meaning) > 4 for meaning in meanings_for(one, words)):
                    continue
                for goal in (twin, one):
                    got = turned(one, goal, words)
                    self.assertEqual(got, [(meaning, sayings(goal, meaning)) for meaning in meanings_for(one, words)])
                    best = best_reading(one, words)
                    want = None if best is None else best_saying(goal, meaning_of(one, best))
                    self.assertEqual(best_turned(one, goal, words), want)
                    if want is not None:
                        said += 1
                        twins = [tree for tree in readings(goal, want) if meaning_of(goal, tree) == meaning_of(one, best)]
                        self.assertIs(shows_turned(one, goal, words, want, best, twins[0]), True)
                        self.assertEqual(words_of(goal, twins[0]), list(want))
        self.assertGreater(said, 50)


if __name__ == "__main__":
    unittest.main()
