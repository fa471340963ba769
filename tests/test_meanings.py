"""[10]: nodes_of, has_hole, with_pair, filled."""

import itertools
import unittest

from speechloom import meanings as meanings_file
from speechloom.meanings import filled, has_hole, nodes_of, with_pair

HOLE = ("", (), ())


def node(atom, *pairs, marks=()):
    """A meaning with these pairs, written in any order."""
    return (atom, tuple(sorted(marks)), tuple(sorted(pairs)))


CAT = node("cat", marks=[("num", "sg")])
DOG = node("dog", marks=[("num", "pl"), ("gen", "m")])


class NodesOf(unittest.TestCase):
    def test_one(self):
        self.assertEqual(nodes_of(CAT), 1)
        self.assertEqual(nodes_of(HOLE), 1)

    def test_many(self):
        self.assertEqual(nodes_of(node("see", ("by", CAT), ("to", DOG))), 3)
        self.assertEqual(nodes_of(node("say", ("by", DOG), ("that", node("see", ("by", CAT), ("to", DOG))))), 5)

    def test_a_pair_that_stands_twice_counts_twice(self):
        self.assertEqual(nodes_of(node("and", ("of", CAT), ("of", CAT))), 3)
        both = node("and", ("of", CAT), ("of", CAT))
        self.assertEqual(nodes_of(node("or", ("of", both), ("of", both))), 7)

    def test_marks_do_not_count(self):
        self.assertEqual(nodes_of(node("a", marks=[("x", "a"), ("y", "a"), ("z", "a")])), 1)

    def test_24_of_them_side_by_side_and_below_one_another(self):
        self.assertEqual(nodes_of(node("a", *[("of", CAT)] * 23)), 24)
        deep = CAT
        for _ in range(23):
            deep = node("a", ("of", deep))
        self.assertEqual(nodes_of(deep), 24)


class HasHole(unittest.TestCase):
    def test_a_hole_that_is_the_whole(self):
        self.assertIs(has_hole(HOLE), True)
        self.assertIs(has_hole(node("", ("by", CAT))), True)

    def test_none(self):
        self.assertIs(has_hole(CAT), False)
        self.assertIs(has_hole(node("see", ("by", CAT), ("to", DOG))), False)

    def test_one_far_within(self):
        whole = node("see", ("by", CAT), ("to", HOLE))
        self.assertIs(has_hole(whole), True)
        for _ in range(9):
            whole = node("say", ("by", DOG), ("that", whole), ("zu", CAT))
        self.assertIs(has_hole(whole), True)

    def test_marks_and_no_atom_are_no_hole(self):
        self.assertIs(has_hole(("", (("num", "sg"),), ())), False)
        self.assertIs(has_hole(node("see", ("by", ("", (("num", "sg"),), ())))), False)

    def test_an_atom_and_no_marks_are_no_hole(self):
        self.assertIs(has_hole(("a", (), ())), False)

    def test_one_within_marks_and_no_atom(self):
        self.assertIs(has_hole(("", (("num", "sg"),), (("by", HOLE),))), True)


class WithPair(unittest.TestCase):
    def test_the_first_pair(self):
        self.assertEqual(with_pair(CAT, "of", DOG), ("cat", (("num", "sg"),), (("of", DOG),)))

    def test_pairs_rise_by_roles(self):
        whole = with_pair(with_pair(with_pair(CAT, "m", DOG), "z", DOG), "a", DOG)
        self.assertEqual(whole[2], (("a", DOG), ("m", DOG), ("z", DOG)))

    def test_pairs_of_one_role_rise_by_meanings(self):
        ant = node("ant")
        self.assertEqual(with_pair(node("x", ("of", CAT), ("of", DOG)), "of", ant)[2],
                         (("of", ant), ("of", CAT), ("of", DOG)))
        self.assertEqual(with_pair(node("x", ("of", ant), ("of", DOG)), "of", CAT)[2],
                         (("of", ant), ("of", CAT), ("of", DOG)))

    def test_a_pair_that_is_there_stands_twice(self):
        self.assertEqual(with_pair(node("x", ("of", CAT)), "of", CAT)[2], (("of", CAT), ("of", CAT)))

    def test_a_hole_gets_a_pair_and_stays_one(self):
        self.assertEqual(with_pair(HOLE, "of", CAT), ("", (), (("of", CAT),)))
        self.assertIs(has_hole(with_pair(HOLE, "of", CAT)), True)

    def test_in_whatever_order(self):
        pairs = [("b", CAT), ("a", DOG), ("b", DOG), ("b", CAT)]
        for order in itertools.permutations(pairs):
            whole = node("x")
            for role, inner in order:
                whole = with_pair(whole, role, inner)
            self.assertEqual(whole, node("x", *pairs))


class Filled(unittest.TestCase):
    def test_a_hole_that_is_the_whole(self):
        self.assertEqual(filled(HOLE, DOG), DOG)
        self.assertEqual(filled(HOLE, node("see", ("by", CAT))), node("see", ("by", CAT)))

    def test_one_within(self):
        self.assertEqual(filled(node("see", ("by", CAT), ("to", HOLE)), DOG), node("see", ("by", CAT), ("to", DOG)))

    def test_marks_of_the_filler_are_taken_whole(self):
        self.assertEqual(filled(node("see", ("to", HOLE)), DOG)[2][0][1][1], (("gen", "m"), ("num", "pl")))

    def test_pairs_of_the_hole_and_of_the_filler_together(self):
        hole = node("", ("m", CAT), ("z", DOG))
        filler = node("x", ("a", CAT), ("m", CAT), ("y", DOG), marks=[("num", "sg")])
        want = ("x", (("num", "sg"),), (("a", CAT), ("m", CAT), ("m", CAT), ("y", DOG), ("z", DOG)))
        self.assertEqual(filled(hole, filler), want)
        self.assertEqual(filled(node("see", ("to", hole)), filler), node("see", ("to", want)))

    def test_the_pairs_above_rise_again(self):
        # The hole's atom is the least; the filler's isn't.
        whole = node("and", ("of", HOLE), ("of", CAT), ("of", DOG))
        self.assertEqual(whole[2][0], ("of", HOLE))
        self.assertEqual(filled(whole, node("cow")), node("and", ("of", CAT), ("of", node("cow")), ("of", DOG)))
        self.assertEqual(filled(whole, node("fox"))[2], (("of", CAT), ("of", DOG), ("of", node("fox"))))

    def test_the_pairs_far_above_rise_again(self):
        inner = node("b", ("of", node("c", ("to", HOLE))))
        other = node("b", ("of", node("c", ("to", CAT))))
        whole = node("a", ("at", inner), ("at", other))
        self.assertEqual(whole[2][0], ("at", inner))
        got = filled(whole, DOG)
        self.assertEqual(got[2], (("at", other), ("at", node("b", ("of", node("c", ("to", DOG)))))))

    def test_a_hole_behind_others(self):
        whole = node("a", ("b", node("c", ("d", CAT))), ("e", node("f", ("g", CAT), ("h", HOLE))), ("i", CAT))
        want = node("a", ("b", node("c", ("d", CAT))), ("e", node("f", ("g", CAT), ("h", DOG))), ("i", CAT))
        self.assertEqual(filled(whole, DOG), want)

    def test_marks_and_no_atom_are_not_filled(self):
        marked = ("", (("num", "sg"),), ())
        self.assertEqual(filled(node("a", ("b", marked), ("c", HOLE)), DOG), node("a", ("b", marked), ("c", DOG)))

    def test_what_is_filled_has_no_hole_and_all_nodes(self):
        whole = node("a", ("b", node("", ("c", CAT))), ("d", DOG))
        got = filled(whole, node("e", ("f", CAT)))
        self.assertIs(has_hole(got), False)
        self.assertEqual(nodes_of(got), nodes_of(whole) + 1)


class All(unittest.TestCase):
    def test_what_is_told_is_tuples_throughout(self):
        for told in (with_pair(CAT, "of", DOG), filled(node("see", ("to", HOLE)), DOG)):
            waiting = [told]
            while waiting:
                atom, marks, pairs = waiting.pop()
                self.assertIs(type(marks), tuple)
                self.assertIs(type(pairs), tuple)
                self.assertTrue(all(type(pair) is tuple for pair in pairs))
                waiting.extend(inner for _, inner in pairs)

    def test_they_are_defined_in_their_file(self):
        for name in ("nodes_of", "has_hole", "with_pair", "filled"):
            self.assertEqual(getattr(meanings_file, name).__module__, "speechloom.meanings")


if __name__ == "__main__":
    unittest.main()
