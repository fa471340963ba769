"""[18]: served, never_rules, idle_stems, idle_endings, never_paper, shows_never."""

import itertools
import random
import unittest

from helper import Plain, one_rule, small, stem, tongues
from speechloom import looks as looks_file
from speechloom.growing import sayable
from speechloom.looks import idle_endings, idle_stems, never_paper, never_rules, served, shows_never
from speechloom.tongues import Tongue
from speechloom.trees import is_sentence


def rules_in(tree):
    """The numbers of all rules that stand in the tree."""
    return {tree[1]}.union(*[rules_in(inner) for inner in tree[3]]) if tree[0] == "rule" else set()


def met_by(plain):
    """(said, met): what can be said, and what of it stands in sentences."""
    said, found = plain.grown()
    met = {symbol for symbol in said if symbol[0] == plain.told["start"] and symbol[2] == ()}
    while True:
        more = met | {symbol for _, symbols, whole in found if whole in met for symbol in symbols}
        if more == met:
            return said, met
        met = more


def plain_shows(plain, number, said, met):
    """What shows_never tells, by its words."""
    said, met = set(said), set(met)
    if any(plain.symbol(tree)[0] not in said for tree in [*plain.word_trees(), *plain.gap_trees()]):
        return False
    rows = []
    for at, rule in enumerate(plain.rules):
        for symbols in itertools.product(*[[symbol for symbol in said if symbol[0] == part[1]] for part in rule[4]]):
            whole = plain.whole(rule, symbols)
            if whole:
                rows.append((at, symbols, whole))
    if any(whole not in said for _, _, whole in rows):
        return False
    if any(symbol[0] == plain.told["start"] and symbol[2] == () and symbol not in met for symbol in said):
        return False
    rows = [row for row in rows if row[2] in met]
    return all(at != number and set(symbols) <= met for at, symbols, _ in rows)


class Checked(unittest.TestCase):
    def check(self, told, never, stems=None, endings=None):
        tongue, plain = Tongue(told), Plain(told)
        self.assertEqual(never_rules(tongue), never)
        if stems is not None:
            self.assertEqual((idle_stems(tongue), idle_endings(tongue)), (stems, endings))
        for number in range(len(told["rules"])):
            tree, paper = served(tongue, number), never_paper(tongue, number)
            if number in never:
                self.assertIsNone(tree)
                self.assertIsInstance(paper, tuple)
                said, met = paper
                self.assertIsInstance(said, list)
                self.assertIsInstance(met, list)
                self.assertIs(shows_never(tongue, number, said, met), True)
                self.assertTrue(plain_shows(plain, number, said, met))
            else:
                self.assertIsNone(paper)
                self.assertIs(is_sentence(tongue, tree), True)
                self.assertIn(number, rules_in(tree))
                said, met = met_by(plain)
                self.assertIs(shows_never(tongue, number, list(said), list(met)), False)
        return tongue


class Small(Checked):
    def test_all_serve(self):
        self.check(small(), [], [], [])

    def test_another_start(self):
        # Of noun phrases alone: clauses, verbs and what is said when serve never.
        self.check({**small(), "start": "np"}, [0, 2, 3, 4], [6, 7, 8], [5, 6, 7, 8, 9, 10])
        self.check({**small(), "start": "adv"}, [0, 1, 2, 3, 4], [0, 1, 2, 3, 4, 5, 6, 7], [0, 1, 3, 4, 5, 6, 7, 8, 9, 10])

    def test_nothing_can_be_said(self):
        told = small()
        self.check({**told, "stems": []}, [0, 1, 2, 3, 4], [], list(range(11)))
        self.check({**told, "endings": []}, [0, 1, 2, 3, 4], list(range(9)), [])
        tongue = Tongue({**told, "rules": []})
        self.assertEqual((never_rules(tongue), idle_stems(tongue)), ([], list(range(9))))

    def test_stems_and_endings_that_make_no_word(self):
        told = small()
        told["stems"].append(("ox", "n", "none", "ox", {}, 0))
        told["endings"] += [("nobody", "", {}, 0), ("noun", "x", {"num": "sg", "per": "one"}, 0), ("noun", "en", {}, 0)]
        self.check(told, [], [9], [11, 12, 13])

    def test_an_ending_that_serves_with_one_stem_alone(self):
        told = small()
        told["endings"].append(("verb", "x", {"num": "pl", "per": "one", "tense": "now"}, 0))
        # There is no one who is several.
        tongue = self.check(told, [], [], [11])
        self.assertEqual(idle_endings(tongue), [11])


class Reasons(Checked):
    KINDS = [("s", [], False, False), ("n", ["num"], True, False), ("v", ["num"], False, False), ("k", [], False, False)]
    FEATURES = [("num", ["sg", "pl"], True)]

    def told(self, *rules, stems=()):
        words = [("a", "n", "x", "p", {"num": "sg"}, 0), ("v", "v", "x", "q", {"num": "sg"}, 0), *stems]
        told = one_rule(("top", 0, "s", {}, [("by", "n", {}, False), ("head", "v", {}, False)], [], (0, 0, [])),
                        self.KINDS, words, self.FEATURES)
        told["rules"] += rules
        return told

    def test_a_kind_that_nothing_makes(self):
        self.check(self.told(("r", 0, "s", {}, [("head", "k", {}, False)], [], (0, 0, []))), [1], [], [])

    def test_a_kind_that_only_itself_makes(self):
        rule = ("r", 0, "k", {}, [("head", "k", {}, False), ("by", "n", {}, False)], [], (0, 0, []))
        use = ("u", 0, "s", {}, [("head", "k", {}, False)], [], (0, 0, []))
        self.check(self.told(rule, use), [1, 2])

    def test_values_that_clash(self):
        for part, agrees in (({"num": ["pl"]}, []), ({}, [[(0, "num"), (1, "num")]])):
            stems = [("b", "n", "y", "r", {"num": "pl"}, 0)] if agrees else []
            told = self.told(("r", 0, "s", {}, [("to", "n", part, False), ("head", "v", {"num": ["pl"]}, False)], agrees,
                              (0, 0, [])), stems=stems)
            self.check(told, [1])

    def test_a_bundle_of_the_whole_that_lets_nothing_be(self):
        rule = ("r", 0, "v", {"num": ["pl"]}, [("head", "v", {}, False), ("to", "n", {}, False)], [[(-1, "num"), (0, "num")]],
                (0, 0, []))
        self.check(self.told(rule), [1])

    def test_a_gap_that_nothing_fills(self):
        # lone stands over a gap alone: without a rule that fills it, it is in no sentence.
        lone = ("lone", 0, "k", {}, [("head", "n", {"num": ["pl"]}, True)], [], (0, 0, []))
        over = ("over", 0, "s", {}, [("head", "v", {}, False), ("that", "k", {}, True)], [], (0, 0, []))
        self.check(self.told(lone, over), [1, 2])
        # With one, it wants a fill of many: there is no such word.
        fill = ("fill", 0, "s", {}, [("fill", "n", {}, False), ("host", "s", {}, True)], [], (0, 0, []))
        self.check(self.told(lone, over, fill), [1, 2, 3])
        stems = [("b", "n", "x", "r", {"num": "pl"}, 0)]
        self.check(self.told(lone, over, fill, stems=stems), [], [], [])

    def test_a_part_that_lets_no_gap(self):
        # The gap can't come out: what would host it is shut.
        lone = ("lone", 0, "k", {}, [("head", "v", {}, False), ("to", "n", {}, True)], [], (0, 0, []))
        fill = ("fill", 0, "s", {}, [("fill", "n", {}, False), ("host", "s", {}, True)], [], (0, 0, []))
        for lets, never in ((False, [2]), (True, [])):
            over = ("over", 0, "s", {}, [("head", "v", {}, False), ("that", "k", {}, lets)], [], (0, 0, []))
            told = self.told(lone, fill, over)
            self.check(told, never, [], [])

    def test_a_kind_that_no_sentence_leads_to(self):
        rule = ("r", 0, "k", {}, [("head", "n", {}, False)], [], (0, 0, []))
        self.check(self.told(rule, stems=[("c", "k", "x", "c", {}, 0)]), [1], [2], [])
        more = ("m", 0, "k", {}, [("head", "k", {}, False), ("by", "n", {}, False)], [], (0, 0, []))
        self.check(self.told(rule, more), [1, 2])

    def test_deep_within_and_only_beside_something(self):
        # What is joined deep within serves, too; and a sentence that holds it may be long.
        names = ["k" + letter for letter in "abcdefghij"]
        kinds = [(name, [], False, False) for name in names] + [("m", [], False, True)]
        rules = [("r" + name, 0, name, {}, [("head", other, {}, False), ("to", other, {}, False), ("-", "m", {}, False)], [],
                  (2, 1, [])) for name, other in zip(names, names[1:])]
        told = {"features": [], "kinds": kinds, "seams": [], "stems": [stem("a", "kj", "p"), stem("m", "m", "")],
                "endings": [("x", "", {}, 0)], "rules": rules, "start": "ka"}
        self.check(told, [], [], [])
        self.check({**told, "start": "ke"}, [0, 1, 2, 3], [], [])


class ShowsNever(unittest.TestCase):
    def setUp(self):
        # lone serves never: nothing is of the kind k but what it makes, and no sentence leads there.
        told = small()
        told["kinds"].append(("k", ["num"], False, False))
        told["rules"].append(("lone", 0, "k", {}, [("head", "np", {}, True)], [[(-1, "num"), (0, "num")]], (0, 0, [])))
        self.tongue = Tongue(told)
        self.said, self.met = never_paper(self.tongue, 5)

    def shows(self, said, met, rule=5):
        return shows_never(self.tongue, rule, said, met)

    def test_as_it_is(self):
        self.assertIs(self.shows(self.said, self.met), True)
        self.assertIs(self.shows(self.said[::-1], self.met[::-1]), True)
        self.assertIs(self.shows(self.said + self.said, self.met + self.met), True)

    def test_of_rules_that_serve(self):
        for rule in range(5):
            self.assertIs(self.shows(self.said, self.met, rule), False)
            self.assertIsNone(never_paper(self.tongue, rule))

    def test_each_symbol_that_was_said_is_needed(self):
        for at, symbol in enumerate(self.said):
            self.assertIs(self.shows(self.said[:at] + self.said[at + 1:], self.met), False, symbol)
        self.assertIs(self.shows([], self.met), False)
        self.assertIs(self.shows([], []), False)

    def test_each_symbol_that_is_met_is_needed(self):
        for at, symbol in enumerate(self.met):
            self.assertIs(self.shows(self.said, self.met[:at] + self.met[at + 1:]), False, symbol)
        self.assertIs(self.shows(self.said, []), False)

    def test_what_the_rule_makes_is_not_met(self):
        self.assertIs(self.shows(self.said, [*self.met, ("k", ("sg",), ())]), False)
        self.assertIs(self.shows(self.said, [*self.met, ("k", ("pl",), ("np", ("pl", "one")))]), False)

    def test_more_said(self):
        # What can't be said may be there, with all that it leads to.
        more = ("np", ("pl", "one"), ())
        self.assertNotIn(more, self.said)
        self.assertIs(self.shows([*self.said, more], self.met), False)
        self.assertIs(self.shows([*self.said, ("adv", (), ("np", ("sg", "one")))], self.met), True)
        self.assertIs(self.shows([*self.said, ("s", ("past",), ("np", ("sg", "one")))], self.met), True)

    def test_more_met(self):
        # A symbol that is met draws in what it could be made of: the mute one is made of nothing.
        self.assertIs(self.shows(self.said, [*self.met, ("adv", (), ("np", ("sg", "one")))]), True)
        self.assertIs(self.shows(self.said, [*self.met, ("n", ("sg",), ("np", ("sg", "one")))]), True)

    def test_met_of_the_kind_start_without_a_gap(self):
        extra = ("s", ("now",), ())
        self.assertIn(extra, self.met)
        self.assertIs(self.shows(self.said, [symbol for symbol in self.met if symbol != extra]), False)

    def test_nothing_is_changed(self):
        said, met = list(self.said), list(self.met)
        self.shows(said, met)
        self.assertEqual((said, met), (self.said, self.met))

    def test_what_is_told_is_the_askers_own(self):
        said, met = never_paper(self.tongue, 5)
        said.clear()
        met.append("x")
        self.assertEqual(never_paper(self.tongue, 5), (self.said, self.met))
        self.assertTrue(sayable(self.tongue))
        never_rules(self.tongue).append(7)
        idle_stems(self.tongue).append(7)
        idle_endings(self.tongue).append(7)
        self.assertEqual((never_rules(self.tongue), idle_stems(self.tongue), idle_endings(self.tongue)), ([5], [], []))
        self.assertEqual(served(self.tongue, 1), served(self.tongue, 1))

    def test_they_are_defined_in_their_file(self):
        for name in ("served", "never_rules", "idle_stems", "idle_endings", "never_paper", "shows_never"):
            self.assertEqual(getattr(looks_file, name).__module__, "speechloom.looks")


class All(Checked):
    def test_as_a_plain_teller_tells(self):
        chance = random.Random(2)
        papers = serving = 0
        for told, tongue in tongues(2, 60):
            plain = Plain(told)
            said, met = met_by(plain)
            makes = {number for number, _, whole in plain.grown()[1] if whole in met}
            words = [tree for tree in plain.word_trees() if plain.symbol(tree)[0] in met]
            never = [number for number in range(len(told["rules"])) if number not in makes]
            self.check(told, never, [number for number in range(len(told["stems"])) if number not in [w[1] for w in words]],
                       [number for number in range(len(told["endings"])) if number not in [w[2] for w in words]])
            papers += len(never)
            serving += len(makes)
            for number in range(len(told["rules"])):
                for _ in range(4):
                    one, other = self.changed(chance, plain, sorted(said), sorted(met))
                    self.assertIs(shows_never(tongue, number, one, other), plain_shows(plain, number, one, other))
        self.assertGreater(papers, 40)
        self.assertGreater(serving, 40)

    def changed(self, chance, plain, said, met):
        how = chance.random()
        if how < 0.3:
            said.remove(chance.choice(said))
        elif how < 0.5 and met:
            met.remove(chance.choice(met))
        elif how < 0.7:
            met.append(chance.choice(said))
        else:
            kind = chance.choice(sorted(plain.own))
            values = tuple(chance.choice(plain.values[name]) for name in plain.own[kind])
            said.append((kind, values, chance.choice(said)[2]))
            if chance.random() < 0.5:
                met.append(said[-1])
        chance.shuffle(said)
        return said, met


if __name__ == "__main__":
    unittest.main()
