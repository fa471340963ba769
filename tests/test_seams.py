"""[5]: sewn."""

import itertools
import unittest

from speechloom import seams as seams_file
from speechloom.seams import sewn


class Sewn(unittest.TestCase):
    def test_no_seam_at_all(self):
        self.assertEqual(sewn([], "cat", "s"), "cats")

    def test_no_seam_that_fits(self):
        seams = [("y", "s", "ies"), ("t", "e", "tte"), ("a", "s", "x")]
        self.assertEqual(sewn(seams, "cat", "s"), "cats")

    def test_an_ordinary_seam(self):
        self.assertEqual(sewn([("y", "s", "ies")], "city", "s"), "cities")
        self.assertEqual(sewn([("e", "i", "i")], "bake", "ing"), "baking")
        self.assertEqual(sewn([("ife", "s", "ive")], "knife", "shy"), "knivehy")

    def test_the_first_of_several_that_fit(self):
        seams = [("x", "s", "no"), ("ty", "s", "first"), ("y", "s", "then"), ("ity", "", "last")]
        self.assertEqual(sewn(seams, "city", "s"), "cifirst")
        self.assertEqual(sewn(seams[2:], "city", "s"), "citthen")
        self.assertEqual(sewn(seams[3:], "city", "s"), "clasts")

    def test_both_sides_must_fit(self):
        self.assertEqual(sewn([("y", "s", "ie")], "city", "ed"), "cityed")
        self.assertEqual(sewn([("y", "s", "ie")], "cat", "s"), "cats")

    def test_left_ends_the_stem_and_right_begins_the_ending(self):
        self.assertEqual(sewn([("c", "s", "q")], "cat", "s"), "cats")
        self.assertEqual(sewn([("t", "d", "q")], "cat", "ed"), "cated")

    def test_only_one_seam_is_sewn_and_only_once(self):
        self.assertEqual(sewn([("a", "a", "aa")], "baa", "aab"), "baaaab")
        self.assertEqual(sewn([("y", "s", "ie"), ("ie", "s", "q")], "city", "ss"), "cities")

    def test_an_empty_right_fits_any_ending(self):
        self.assertEqual(sewn([("e", "", "i")], "bake", "ng"), "baking")
        self.assertEqual(sewn([("e", "", "a")], "bake", ""), "baka")

    def test_a_right_that_is_not_empty_does_not_fit_an_empty_ending(self):
        self.assertEqual(sewn([("e", "s", "a")], "bake", ""), "bake")

    def test_an_empty_made(self):
        self.assertEqual(sewn([("e", "i", "")], "bake", "ing"), "bakng")
        self.assertEqual(sewn([("e", "", "")], "bake", "ing"), "baking")

    def test_a_seam_that_takes_the_whole_stem(self):
        self.assertEqual(sewn([("go", "", "wen")], "go", "t"), "went")
        self.assertEqual(sewn([("go", "e", "w")], "go", "ent"), "wnt")

    def test_a_seam_that_takes_the_whole_ending(self):
        self.assertEqual(sewn([("y", "ing", "x")], "try", "ing"), "trx")

    def test_a_seam_that_takes_all_and_makes_nothing(self):
        self.assertEqual(sewn([("go", "ing", "")], "go", "ing"), "")

    def test_a_left_or_right_longer_than_the_text(self):
        self.assertEqual(sewn([("ago", "", "x")], "go", "s"), "gos")
        self.assertEqual(sewn([("o", "ss", "x")], "go", "s"), "gos")

    def test_an_empty_ending(self):
        self.assertEqual(sewn([], "cat", ""), "cat")

    def test_texts_of_eight_letters(self):
        self.assertEqual(sewn([("fgh", "ijk", "xyz")], "abcdefgh", "ijklmnop"), "abcdexyzlmnop")

    def test_the_seams_stay(self):
        seams = [("y", "s", "ies"), ("e", "", "")]
        self.assertEqual(sewn(seams, "bake", "s"), "baks")
        self.assertEqual(seams, [("y", "s", "ies"), ("e", "", "")])

    def test_a_later_change_of_the_seams_is_seen(self):
        seams = [("y", "s", "ies")]
        self.assertEqual(sewn(seams, "city", "s"), "cities")
        seams.clear()
        self.assertEqual(sewn(seams, "city", "s"), "citys")

    def test_all_small_seams(self):
        texts = ["", "a", "b", "ab", "ba", "aba"]
        for left, right, stem, ending in itertools.product(texts[1:], texts, texts[1:], texts):
            got = sewn([(left, right, "c")], stem, ending)
            want = stem + ending
            if stem[-len(left):] == left and ending[:len(right)] == right:
                want = (stem + "|").replace(left + "|", "c") + ("|" + ending).replace("|" + right, "")
            self.assertEqual(got, want, (left, right, stem, ending))

    def test_it_is_defined_in_its_file(self):
        self.assertEqual(seams_file.sewn.__module__, "speechloom.seams")


if __name__ == "__main__":
    unittest.main()
