"""[19]: rows_upto, meanings_upto, two_meanings, two_sayings."""

import itertools
import unittest

from helper import Plain, one_rule, pairing, small, stem, tongues
from speechloom import measures as measures_file
from speechloom.measures import meanings_upto, rows_upto, two_meanings, two_sayings
from speechloom.meanings import nodes_of
from speechloom.reading import count_readings, meanings_for
from speechloom.saying import sayings
from speechloom.tongues import Tongue
from speechloom.words import forms

EMPTY = ({"stems": []}, {"endings": []}, {"rules": []}, {"rules": [], "start": "vp"})


def leaf(atom):
    return (atom, (), ())


def node(atom, *pairs):
    return (atom, (), tuple(sorted(pairs)))


def chain(many):
    """p in p, so many of them."""
    meaning = leaf("p")
    for _ in range(many - 1):
        meaning = node("p", ("by", meaning))
    return meaning


def trees_of(many):
    """All meanings of so many nodes of the atom p, pairs of the role by in any number."""
    if many == 0:
        return []
    found = set()
    for sizes in partitions(many - 1):
        for inner in itertools.product(*[trees_of(size) for size in sizes]):
            found.add(node("p", *[("by", meaning) for meaning in inner]))
    return sorted(found)


def partitions(total, most=None):
    if total == 0:
        yield ()
    for first in range(1, min(total, most or total) + 1):
        for rest in partitions(total - first, first):
            yield (first, *rest)


class Rows(unittest.TestCase):
    def test_of_the_small_tongue(self):
        tongue = Tongue(small())
        self.assertEqual([rows_upto(tongue, most) for most in (0, 1, 2)], [[], [], []])
        self.assertEqual(rows_upto(tongue, 3), [("i", "i", "saw"), ("i", "i", "see"), ("i", "saw", "i"), ("i", "see", "i")])
        got = rows_upto(tongue, 4)
        self.assertEqual(got[:4], rows_upto(tongue, 3))
        self.assertEqual(len(got), 84)
        self.assertIn(("a", "dog", "sees", "i"), got)
        self.assertNotIn(("a", "dog", "see", "i"), got)
        self.assertEqual(got, sorted(set(got), key=lambda row: (len(row), row)))

    def test_no_sentence(self):
        for change in EMPTY:
            tongue = Tongue({**small(), **change})
            for most in (0, 1, 3, 8):
                self.assertEqual(rows_upto(tongue, most), [])
                self.assertIsNone(two_meanings(tongue, most))

    def test_one_sentence(self):
        tongue = Tongue({**small(), "start": "adv"})
        self.assertEqual([rows_upto(tongue, most) for most in (0, 1, 8)], [[], [("now",)], [("now",)]])

    def test_sentences_of_any_length(self):
        tongue = Tongue(pairing([stem("a", "n", "p")]))
        for most in range(9):
            self.assertEqual(rows_upto(tongue, most), [("a",) * many for many in range(1, most + 1)])
        tongue = Tongue(pairing([stem("b", "n", "p"), stem("a", "n", "q")], 0, (1, 3, [])))
        self.assertEqual(rows_upto(tongue, 7),
                         [row for many in range(1, 8) for row in itertools.product("ab", repeat=many)])

    def test_each_row_once(self):
        # One text of several words, in several rules.
        told = pairing([stem("a", "n", "p"), stem("a", "n", "q"), stem("a", "n", "p")], 0, (1, 0, []))
        told["rules"].append(("q", 1, "n", {}, [("to", "n", {}, False), ("head", "n", {}, False)], [], (1, 1, [])))
        self.assertEqual(rows_upto(Tongue(told), 5), [("a",) * many for many in range(1, 6)])

    def test_sentences_that_are_longer_alone(self):
        # A word that stands only in sentences of four words and more.
        kinds = [("s", [], False, False), ("n", [], False, False), ("m", [], False, True)]
        parts = [("-", "m", {}, False), ("head", "n", {}, False), ("-", "m", {}, False), ("-", "m", {}, False)]
        told = one_rule(("r", 0, "s", {}, parts, [], (3, 0, [(0, 2), (2, 3)])), kinds, [stem("a", "n", "p"), stem("m", "m", "")])
        tongue = Tongue(told)
        self.assertEqual(rows_upto(tongue, 3), [])
        want = [("a", "m", "m", "m"), ("m", "a", "m", "m"), ("m", "m", "a", "m"), ("m", "m", "m", "a")]
        self.assertEqual(rows_upto(tongue, 4), want)
        self.assertEqual(rows_upto(tongue, 8), want)

    def test_gaps_that_are_filled_and_that_are_not(self):
        told = small()
        rows = rows_upto(Tongue(told), 3)
        del told["rules"][3]
        self.assertEqual(rows_upto(Tongue(told), 3), [row for row in rows if row[1] != "i"])

    def test_what_no_sentence_leads_to_is_not_grown(self):
        # The kind n has 40 words, which go on without end; sentences are of another kind.
        told = pairing([stem("w" + one + other, "n", "p") for one in "abcdefg" for other in "abcde"], 0, (1, 0, []))
        told["kinds"].append(("s", [], False, False))
        told["stems"].append(stem("a", "s", "p"))
        tongue = Tongue({**told, "start": "s"})
        self.assertEqual(rows_upto(tongue, 8), [("a",)])
        self.assertEqual(meanings_upto(tongue, 6), [leaf("p")])
        # Nor what has no room beside the rest: seven words around it.
        told["kinds"].append(("m", [], False, True))
        told["stems"].append(stem("m", "m", ""))
        told["rules"].append(("long", 0, "s", {}, [*[("-", "m", {}, False)] * 4, ("head", "k", {}, False)], [], (0, 0, [])))
        told["kinds"].append(("k", [], False, False))
        told["rules"].append(("more", 0, "k", {}, [*[("-", "m", {}, False)] * 3, ("head", "n", {}, False)], [], (0, 0, [])))
        got = rows_upto(Tongue({**told, "start": "s"}), 8)
        self.assertEqual(got, [("a",), *sorted((*"m" * 7, text[0]) for text in told["stems"][:35])])


class Meanings(unittest.TestCase):
    def test_of_the_small_tongue(self):
        tongue = Tongue(small())
        self.assertEqual([meanings_upto(tongue, most) for most in (1, 2)], [[], []])
        got = meanings_upto(tongue, 3)
        self.assertEqual(len(got), 98)
        self.assertEqual(got, sorted(set(got)))
        four = meanings_upto(tongue, 4)
        self.assertEqual(four[:98], got)
        self.assertEqual([nodes_of(meaning) for meaning in four], [3] * 98 + [4] * 98)
        self.assertEqual(len(meanings_upto(tongue, 6)), 4 * 98)

    def test_no_sentence(self):
        for change in EMPTY:
            tongue = Tongue({**small(), **change})
            for most in (1, 3, 6):
                self.assertEqual(meanings_upto(tongue, most), [])
                self.assertIsNone(two_sayings(tongue, most))

    def test_one_sentence(self):
        tongue = Tongue({**small(), "start": "adv"})
        for most in (1, 6):
            self.assertEqual(meanings_upto(tongue, most), [("now", (), ())])

    def test_meanings_of_any_size(self):
        tongue = Tongue(pairing([stem("a", "n", "p"), stem("b", "n", "p")], 2, (1, 0, [])))
        for most in range(1, 7):
            self.assertEqual(meanings_upto(tongue, most), [meaning for many in range(1, most + 1) for meaning in trees_of(many)])
        self.assertEqual(len(trees_of(6)), 20)

    def test_two_of_one_role_and_pairs_that_stand_twice(self):
        parts = [("head", "v", {}, False), ("by", "n", {}, False), ("by", "n", {}, False)]
        told = one_rule(("r", 0, "s", {}, parts, [], (0, 0, [])),
                        [("s", [], False, False), ("n", [], False, False), ("v", [], False, False)],
                        [stem("v", "v", "v"), stem("a", "n", "p"), stem("b", "n", "q")])
        by = {atom: ("by", leaf(atom)) for atom in "pq"}
        self.assertEqual(meanings_upto(Tongue(told), 3),
                         [node("v", by["p"], by["p"]), node("v", by["p"], by["q"]), node("v", by["q"], by["q"])])

    def test_hosts_and_fills(self):
        # What is filled has one node less than both parts: a bare hole is filled with what stays as it is.
        kinds = [("s", [], False, False), ("n", [], True, False), ("k", [], False, False)]
        told = one_rule(("of", 0, "n", {}, [("head", "n", {}, True), ("of", "n", {}, True)], [], (0, 0, [])), kinds,
                        [stem("a", "n", "p"), stem("b", "n", "q")])
        told["rules"].append(("fill", 0, "s", {}, [("host", "n", {}, True), ("fill", "n", {}, False)], [], (0, 0, [])))
        tongue, plain = Tongue({**told, "start": "s"}), Plain({**told, "start": "s"})
        for most in (1, 2, 3):
            want = sorted(plain.meanings_of(most), key=lambda meaning: (nodes_of(meaning), meaning))
            self.assertEqual(meanings_upto(tongue, most), want)
        self.assertEqual(meanings_upto(tongue, 1), [leaf("p"), leaf("q")])
        self.assertEqual(len(meanings_upto(tongue, 2)), 6)
        self.assertEqual(meanings_upto(tongue, 3), meanings_upto(Tongue({**told, "start": "n"}), 3))

    def test_deep_meanings(self):
        told = pairing([stem("a", "n", "p")])
        told["kinds"].append(("w", [], False, False))
        told["stems"].append(stem("b", "w", "p"))
        told["rules"] = [("r", 0, "n", {}, [("head", "w", {}, False), ("by", "n", {}, False)], [], (0, 0, []))]
        self.assertEqual(meanings_upto(Tongue(told), 6), [chain(many) for many in range(1, 7)])


class TwoMeanings(unittest.TestCase):
    def test_none(self):
        self.assertIsNone(two_meanings(Tongue(small()), 4))
        self.assertIsNone(two_meanings(Tongue(pairing([stem("a", "n", "p")])), 2))

    def test_several_readings_of_one_meaning(self):
        tongue = Tongue(pairing([stem("a", "n", "p"), stem("a", "n", "p")], 0, (1, 0, [])))
        self.assertGreater(count_readings(tongue, ["a", "a"]), 1)
        self.assertIsNone(two_meanings(tongue, 2))
        self.assertEqual(two_meanings(tongue, 3),
                         (("a",) * 3, sorted([chain(3), node("p", ("by", leaf("p")), ("by", leaf("p")))])))

    def test_the_first_of_several(self):
        tongue = Tongue(pairing([stem("c", "n", "p"), stem("b", "n", "q"), stem("b", "n", "r"), stem("a", "n", "s")]))
        self.assertIsNone(two_meanings(tongue, 0))
        for most in (1, 2, 3):
            self.assertEqual(two_meanings(tongue, most), (("b",), [leaf("q"), leaf("r")]))
        tongue = Tongue(pairing([stem("c", "n", "p"), stem("a", "n", "s")], 0, (1, 0, [])))
        self.assertIsNone(two_meanings(tongue, 1))
        self.assertEqual(two_meanings(tongue, 4),
                         (("a", "c"), [node("p", ("by", leaf("s"))), node("s", ("by", leaf("p")))]))

    def test_more_than_two(self):
        tongue = Tongue(pairing([stem("b", "n", atom) for atom in "zyxw"]))
        self.assertEqual(two_meanings(tongue, 8), (("b",), [leaf(atom) for atom in "wxyz"]))


class TwoSayings(unittest.TestCase):
    def test_none(self):
        tongue = Tongue(pairing([stem("a", "n", "p"), stem("b", "n", "q")]))
        self.assertIsNone(two_sayings(tongue, 3))

    def test_the_same_words_in_another_order_alone(self):
        tongue = Tongue(pairing([stem("a", "n", "p"), stem("b", "n", "q")], 0, (1, 0, [])))
        self.assertEqual(len(sayings(tongue, node("p", ("by", leaf("q"))))), 2)
        self.assertIsNone(two_sayings(tongue, 4))

    def test_the_same_words_but_not_as_often(self):
        # "a b b" and "a a b" have the same words, one of them twice.
        kinds = [("s", [], False, False), ("n", [], False, False), ("m", [], False, True)]
        told = one_rule(("r", 0, "s", {}, [("head", "n", {}, False), ("-", "m", {}, False), ("by", "n", {}, False)], [], (0, 0, [])),
                        kinds, [stem("a", "n", "p"), stem("b", "n", "q"), stem("a", "m", ""), stem("b", "m", "")])
        got = two_sayings(Tongue(told), 2)
        self.assertEqual(got, (node("p", ("by", leaf("p"))), [(0, ("a", "a", "a")), (0, ("a", "b", "a"))]))

    def test_the_first_of_several(self):
        tongue = Tongue(pairing([stem("c", "n", "q"), stem("a", "n", "p"), stem("b", "n", "q", 1)]))
        for most in (1, 2, 4):
            self.assertEqual(two_sayings(tongue, most), (leaf("q"), [(0, ("c",)), (1, ("b",))]))
        # A meaning of fewer nodes ahead of a lesser one.
        told = pairing([stem("a", "n", "a"), stem("b", "n", "z"), stem("c", "n", "z")])
        self.assertEqual(two_sayings(Tongue(told), 2)[0], leaf("z"))

    def test_of_the_small_tongue(self):
        tongue = Tongue(small())
        got = two_sayings(tongue, 3)
        first = [meaning for meaning in meanings_upto(tongue, 3)
                 if len({tuple(sorted(words)) for _, words in sayings(tongue, meaning)}) > 1][0]
        self.assertEqual(got, (first, sayings(tongue, first)))
        self.assertIsNone(two_sayings(tongue, 2))


class Kept(unittest.TestCase):
    def test_nothing_told_counts_later(self):
        told = pairing([stem("b", "n", "p"), stem("b", "n", "q"), stem("c", "n", "p")], 0, (1, 0, []))
        tongue = Tongue(told)
        asks = [lambda: rows_upto(tongue, 3), lambda: meanings_upto(tongue, 3), lambda: two_meanings(tongue, 3)[1],
                lambda: two_sayings(tongue, 3)[1]]
        want = [list(ask()) for ask in asks]
        for ask in asks:
            ask().clear()
        for name in ("stems", "rules", "kinds", "endings"):
            told[name].clear()
        self.assertEqual([ask() for ask in asks], want)
        self.assertTrue(all(want))

    def test_kinds_of_what_is_told(self):
        tongue = Tongue(pairing([stem("b", "n", "p"), stem("b", "n", "q"), stem("c", "n", "p")]))
        self.assertTrue(all(isinstance(row, tuple) for row in rows_upto(tongue, 2)))
        self.assertIsInstance(two_meanings(tongue, 1), tuple)
        self.assertIsInstance(two_sayings(tongue, 1), tuple)
        self.assertEqual(two_meanings(tongue, 1)[1], meanings_for(tongue, ["b"]))

    def test_they_are_defined_in_their_file(self):
        for name in ("rows_upto", "meanings_upto", "two_meanings", "two_sayings"):
            self.assertEqual(getattr(measures_file, name).__module__, "speechloom.measures")


class All(unittest.TestCase):
    MOST = 3

    def test_as_a_plain_teller_tells(self):
        many = 0
        for told, tongue in tongues(11, 200):
            if len(forms(tongue)) > 8 or any(len(rule[4]) > 3 for rule in told["rules"]):
                continue
            plain = Plain(told)
            rows = sorted([row for row in plain.rows_of(self.MOST) if len(row) <= self.MOST], key=lambda row: (len(row), row))
            self.assertEqual(rows_upto(tongue, self.MOST), rows)
            several = [row for row in rows if len(meanings_for(tongue, row)) > 1]
            self.assertEqual(two_meanings(tongue, self.MOST),
                             (several[0], meanings_for(tongue, several[0])) if several else None)
            meanings = sorted([meaning for meaning in plain.meanings_of(self.MOST) if nodes_of(meaning) <= self.MOST],
                              key=lambda meaning: (nodes_of(meaning), meaning))
            self.assertEqual(meanings_upto(tongue, self.MOST), meanings)
            if len(meanings) < 30:
                self.check_sayings(tongue, plain, meanings)
            many += len(rows) + len(meanings)
        self.assertGreater(many, 500)

    def check_sayings(self, tongue, plain, meanings):
        told = [(meaning, plain.sayings(meaning)) for meaning in meanings]
        several = [row for row in told if len({tuple(sorted(words)) for _, words in row[1]}) > 1]
        self.assertEqual(two_sayings(tongue, self.MOST), several[0] if several else None)


if __name__ == "__main__":
    unittest.main()
