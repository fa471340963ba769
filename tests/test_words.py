"""[6]: values_of, forms, analyses."""

import unittest

from helper import Plain, small, tongues
from speechloom import words as words_file
from speechloom.tongues import Tongue
from speechloom.words import analyses, forms, values_of

FEATURES = [("num", ["sg", "pl"], True), ("gen", ["m", "f"], False), ("per", ["one", "two"], True)]


def tongue_of(kinds, stems, endings, seams=()):
    """A tongue without rules."""
    return Tongue({"features": FEATURES, "kinds": list(kinds), "seams": list(seams), "stems": list(stems),
                   "endings": list(endings), "rules": [], "start": "s"})


def values(names, marks, more, gap=False, mute=False, **changes):
    """What values_of tells of one stem and one ending with these marks."""
    kinds = [("s", [], False, False), ("k", names, gap, mute)]
    stem = (changes.get("stem", "ab"), "k", "x", "" if mute else "p", marks, 0)
    ending = (changes.get("line", "x"), changes.get("ending", "c"), more, 0)
    return values_of(tongue_of(kinds, [stem], [ending], changes.get("seams", ())), 0, 0)


class ValuesOf(unittest.TestCase):
    def test_told_by_the_stem_alone(self):
        self.assertEqual(values(["num"], {"num": "pl"}, {}), ("pl",))

    def test_told_by_the_ending_alone(self):
        self.assertEqual(values(["num"], {}, {"num": "pl"}), ("pl",))

    def test_told_by_both_alike(self):
        self.assertEqual(values(["num"], {"num": "pl"}, {"num": "pl"}), ("pl",))

    def test_told_by_both_otherwise(self):
        self.assertIsNone(values(["num"], {"num": "pl"}, {"num": "sg"}))
        self.assertIsNone(values(["num", "gen"], {"num": "pl", "gen": "m"}, {"gen": "m", "num": "sg"}))

    def test_told_by_none(self):
        self.assertIsNone(values(["num"], {}, {}))
        self.assertIsNone(values(["num", "gen"], {"num": "sg"}, {}))
        self.assertIsNone(values(["num", "gen"], {}, {"gen": "f"}))

    def test_one_by_the_stem_and_one_by_the_ending(self):
        self.assertEqual(values(["num", "gen"], {"gen": "f"}, {"num": "sg"}), ("sg", "f"))

    def test_a_feature_that_the_kind_has_not(self):
        self.assertIsNone(values(["num"], {"num": "sg"}, {"gen": "m"}))
        self.assertIsNone(values(["num"], {}, {"num": "sg", "gen": "m"}))
        self.assertIsNone(values([], {}, {"gen": "m"}))

    def test_as_many_features_but_another_one(self):
        self.assertIsNone(values(["num", "gen"], {"num": "sg"}, {"per": "one"}))

    def test_a_kind_without_features(self):
        self.assertEqual(values([], {}, {}), ())

    def test_a_kind_of_gaps_and_a_mute_one(self):
        self.assertEqual(values(["num"], {}, {"num": "sg"}, gap=True), ("sg",))
        self.assertEqual(values(["num"], {}, {"num": "sg"}, mute=True), ("sg",))

    def test_by_the_kinds_order_of_features_not_by_the_tongues_nor_the_marks(self):
        marks, more = {"num": "sg", "per": "two"}, {"gen": "f"}
        self.assertEqual(values(["per", "num", "gen"], marks, more), ("two", "sg", "f"))
        self.assertEqual(values(["gen", "per", "num"], marks, more), ("f", "two", "sg"))

    def test_an_ending_of_another_line(self):
        self.assertIsNone(values(["num"], {"num": "sg"}, {}, line="y"))

    def test_what_is_sewn_without_a_letter(self):
        self.assertIsNone(values([], {}, {}, ending="", seams=[("ab", "", "")]))
        self.assertIsNone(values([], {}, {}, ending="c", seams=[("ab", "c", "")]))
        self.assertEqual(values([], {}, {}, ending="c", seams=[("ab", "", "")]), ())
        self.assertEqual(values([], {}, {}, ending="", seams=[("ab", "", "q")]), ())

    def test_it_is_a_tuple_of_texts(self):
        got = values_of(Tongue(small()), 6, 5)
        self.assertEqual(got, ("sg", "three", "now"))
        self.assertIs(type(got), tuple)

    def test_told_the_same_again(self):
        tongue = Tongue(small())
        self.assertEqual([values_of(tongue, 0, at) for at in range(11)] * 2,
                         [values_of(tongue, 0, at % 11) for at in range(22)])


class Forms(unittest.TestCase):
    def test_all_words_by_stems_then_endings(self):
        self.assertEqual(forms(Tongue(small())), [
            ("cat", 0, 0), ("cats", 0, 1), ("city", 1, 0), ("cities", 1, 1), ("dog", 2, 0), ("dogs", 2, 1),
            ("the", 3, 3), ("the", 3, 4), ("a", 4, 2), ("i", 5, 2), ("sees", 6, 5), ("see", 6, 6), ("see", 6, 7),
            ("saw", 7, 8), ("saw", 7, 9), ("saw", 7, 10), ("now", 8, 2)])

    def test_no_stems_or_no_endings(self):
        kinds = [("s", [], False, False)]
        self.assertEqual(forms(tongue_of(kinds, [], [])), [])
        self.assertEqual(forms(tongue_of(kinds, [("a", "s", "x", "p", {}, 0)], [])), [])
        self.assertEqual(forms(tongue_of(kinds, [], [("x", "", {}, 0)])), [])

    def test_seams_that_eat_the_stem_the_ending_and_all(self):
        kinds = [("s", [], False, False)]
        seams = [("go", "ing", ""), ("go", "", "wen"), ("y", "ing", "x")]
        stems = [("go", "s", "x", "p", {}, 0), ("try", "s", "x", "q", {}, 0)]
        endings = [("x", "t", {}, 0), ("x", "ing", {}, 0)]
        self.assertEqual(forms(tongue_of(kinds, stems, endings, seams)),
                         [("went", 0, 0), ("tryt", 1, 0), ("trx", 1, 1)])

    def test_stems_and_endings_that_stand_twice(self):
        kinds = [("s", [], False, False)]
        told = tongue_of(kinds, [("a", "s", "x", "p", {}, 0)] * 2, [("x", "b", {}, 0)] * 2)
        self.assertEqual(forms(told), [("ab", 0, 0), ("ab", 0, 1), ("ab", 1, 0), ("ab", 1, 1)])

    def test_words_of_mute_kinds_and_of_kinds_of_gaps(self):
        kinds = [("s", [], False, False), ("m", [], False, True), ("g", [], True, False)]
        told = tongue_of(kinds, [("a", "g", "x", "p", {}, 0), ("b", "m", "x", "", {}, 0)], [("x", "", {}, 0)])
        self.assertEqual(forms(told), [("a", 0, 0), ("b", 1, 0)])

    def test_a_told_list_that_is_changed(self):
        tongue = Tongue(small())
        first = forms(tongue)
        kept = list(first)
        first.clear()
        first.append("x")
        self.assertEqual(forms(tongue), kept)
        self.assertEqual(analyses(tongue, "cat"), [("word", 0, 0)])


class Analyses(unittest.TestCase):
    def setUp(self):
        self.tongue = Tongue(small())

    def test_one_word(self):
        self.assertEqual(analyses(self.tongue, "cities"), [("word", 1, 1)])

    def test_several_words_of_one_text(self):
        self.assertEqual(analyses(self.tongue, "saw"), [("word", 7, 8), ("word", 7, 9), ("word", 7, 10)])
        self.assertEqual(analyses(self.tongue, "the"), [("word", 3, 3), ("word", 3, 4)])

    def test_one_text_by_several_stems_by_stems_then_endings(self):
        kinds = [("s", [], False, False)]
        stems = [("ab", "s", "x", "p", {}, 0), ("a", "s", "y", "q", {}, 0), ("ab", "s", "y", "q", {}, 0)]
        endings = [("y", "b", {}, 0), ("x", "", {}, 0), ("y", "", {}, 0)]
        told = tongue_of(kinds, stems, endings)
        self.assertEqual(analyses(told, "ab"), [("word", 0, 1), ("word", 1, 0), ("word", 2, 2)])

    def test_a_text_that_none_has(self):
        for text in ("citys", "ca", "catss", "Cat", "cat ", " "):
            self.assertEqual(analyses(self.tongue, text), [], text)

    def test_the_empty_text(self):
        self.assertEqual(analyses(self.tongue, ""), [])
        told = tongue_of([("s", [], False, False)], [("a", "s", "x", "p", {}, 0)], [("x", "", {}, 0)], [("a", "", "")])
        self.assertEqual(analyses(told, ""), [])

    def test_told_lists_that_are_changed(self):
        first = analyses(self.tongue, "saw")
        first.clear()
        nothing = analyses(self.tongue, "none")
        nothing.append("x")
        self.assertEqual(analyses(self.tongue, "saw"), [("word", 7, 8), ("word", 7, 9), ("word", 7, 10)])
        self.assertEqual(analyses(self.tongue, "none"), [])
        self.assertEqual(len(forms(self.tongue)), 17)


class All(unittest.TestCase):
    def test_as_a_plain_teller_tells(self):
        for told, tongue in tongues(5, 60):
            plain = Plain(told)
            want = [(plain.text(stem, ending), stem, ending) for _, stem, ending in plain.word_trees()]
            self.assertEqual(forms(tongue), want)
            for stem in range(len(told["stems"])):
                for ending in range(len(told["endings"])):
                    self.assertEqual(values_of(tongue, stem, ending), plain.word_values(stem, ending))
            for text in {row[0] for row in want} | {"", "zz"}:
                self.assertEqual(analyses(tongue, text), [("word", *row[1:]) for row in want if row[0] == text])

    def test_they_are_defined_in_their_file(self):
        for name in ("values_of", "forms", "analyses"):
            self.assertEqual(getattr(words_file, name).__module__, "speechloom.words")


if __name__ == "__main__":
    unittest.main()
