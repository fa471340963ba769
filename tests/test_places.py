"""[8]: places_of, stir_of."""

import copy
import itertools
import unittest

from speechloom import places as places_file
from speechloom.places import places_of, stir_of


def rule(many, stray, stir=0, ahead=()):
    """A rule of so many parts; nothing but these counts here."""
    parts = [("head", "n", {}, False)] + [("by", "n", {}, False)] * (many - 1)
    return ("r", 0, "n", {}, parts, [], (stray, stir, list(ahead)))


def plain_places(many, stray, ahead):
    return [row for row in itertools.permutations(range(many))
            if all(abs(place - part) <= stray for part, place in enumerate(row))
            and all(row[i] < row[j] for i, j in ahead)]


class PlacesOf(unittest.TestCase):
    def test_one_part(self):
        for stray in range(5):
            self.assertEqual(places_of(rule(1, stray)), [(0,)])

    def test_two_parts(self):
        self.assertEqual(places_of(rule(2, 0)), [(0, 1)])
        for stray in range(1, 5):
            self.assertEqual(places_of(rule(2, stray)), [(0, 1), (1, 0)])

    def test_three_parts_by_their_stray(self):
        self.assertEqual(places_of(rule(3, 0)), [(0, 1, 2)])
        self.assertEqual(places_of(rule(3, 1)), [(0, 1, 2), (0, 2, 1), (1, 0, 2)])
        self.assertEqual(places_of(rule(3, 2)), [(0, 1, 2), (0, 2, 1), (1, 0, 2), (1, 2, 0), (2, 0, 1), (2, 1, 0)])

    def test_a_place_for_each_part_not_a_part_for_each_place(self):
        # Part 0 stands last, part 1 first, part 2 in the midst.
        self.assertEqual(places_of(rule(3, 2, 0, [(1, 2), (2, 0)])), [(2, 0, 1)])

    def test_how_many(self):
        self.assertEqual([len(places_of(rule(5, stray))) for stray in range(5)], [1, 8, 31, 78, 120])
        self.assertEqual([len(places_of(rule(4, stray))) for stray in range(5)], [1, 5, 14, 24, 24])

    def test_pairs_of_ahead(self):
        self.assertEqual(places_of(rule(3, 2, 0, [(2, 0)])), [(1, 2, 0), (2, 0, 1), (2, 1, 0)])
        self.assertEqual(places_of(rule(3, 4, 0, [(0, 1), (1, 2)])), [(0, 1, 2)])

    def test_ahead_needs_not_be_side_by_side(self):
        self.assertIn((0, 2, 1), places_of(rule(3, 1, 0, [(0, 1)])))

    def test_a_pair_twice(self):
        self.assertEqual(places_of(rule(2, 1, 0, [(1, 0), (1, 0)])), [(1, 0)])

    def test_a_pair_both_ways_about(self):
        self.assertEqual(places_of(rule(2, 1, 0, [(1, 0), (0, 1)])), [])
        self.assertEqual(places_of(rule(4, 4, 0, [(3, 0), (1, 2), (0, 3)])), [])

    def test_pairs_that_go_round(self):
        self.assertEqual(places_of(rule(3, 2, 0, [(0, 1), (1, 2), (2, 0)])), [])

    def test_pairs_that_the_stray_does_not_let(self):
        self.assertEqual(places_of(rule(2, 0, 0, [(1, 0)])), [])
        self.assertEqual(places_of(rule(5, 1, 0, [(2, 0)])), [])
        self.assertEqual(places_of(rule(3, 1, 0, [(2, 1)])), [(0, 2, 1)])

    def test_all_strays_and_pairs_rising(self):
        for many in range(1, 6):
            pairs = list(itertools.permutations(range(many), 2))
            for stray in range(5):
                for ahead in [[], *[[pair] for pair in pairs], pairs[1:4], pairs[-2:]]:
                    got = places_of(rule(many, stray, 0, ahead))
                    self.assertEqual(got, plain_places(many, stray, ahead), (many, stray, ahead))
                    self.assertEqual(got, sorted(got))

    def test_a_new_list_of_tuples_each_time(self):
        asked = rule(3, 1)
        first = places_of(asked)
        first.clear()
        self.assertEqual(places_of(asked), [(0, 1, 2), (0, 2, 1), (1, 0, 2)])


class StirOf(unittest.TestCase):
    def test_the_sum_of_all_distances(self):
        self.assertEqual(stir_of(rule(3, 2, 1), (0, 1, 2)), 0)
        self.assertEqual(stir_of(rule(3, 2, 1), (0, 2, 1)), 2)
        self.assertEqual(stir_of(rule(3, 2, 1), (2, 0, 1)), 4)
        self.assertEqual(stir_of(rule(5, 4, 1), (4, 3, 2, 1, 0)), 12)

    def test_times_the_stir(self):
        self.assertEqual(stir_of(rule(5, 4, 0), (4, 3, 2, 1, 0)), 0)
        self.assertEqual(stir_of(rule(5, 4, 99), (4, 3, 2, 1, 0)), 1188)
        self.assertEqual(stir_of(rule(3, 2, 7), (1, 2, 0)), 28)

    def test_one_part(self):
        self.assertEqual(stir_of(rule(1, 0, 99), (0,)), 0)

    def test_it_is_a_whole_number(self):
        self.assertIs(type(stir_of(rule(2, 1, 5), (1, 0))), int)


class Both(unittest.TestCase):
    def test_the_rule_stays(self):
        asked = rule(4, 3, 5, [(2, 1), (3, 0)])
        kept = copy.deepcopy(asked)
        for places in places_of(asked):
            stir_of(asked, places)
        self.assertEqual(asked, kept)

    def test_a_later_change_of_the_rule_is_seen(self):
        asked = rule(2, 1)
        self.assertEqual(places_of(asked), [(0, 1), (1, 0)])
        asked[6][2].append((1, 0))
        self.assertEqual(places_of(asked), [(1, 0)])

    def test_they_are_defined_in_their_file(self):
        self.assertEqual(places_file.places_of.__module__, "speechloom.places")
        self.assertEqual(places_file.stir_of.__module__, "speechloom.places")


if __name__ == "__main__":
    unittest.main()
