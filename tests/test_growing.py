"""[13]: sayable, instances."""

import itertools
import unittest

from helper import Plain, one_rule, small, tongues
from speechloom import growing as growing_file
from speechloom.growing import instances, sayable
from speechloom.tongues import Tongue

NUM = ("num", ["sg", "pl"], True)


def plain_kinds(*names):
    return [(name, [], False, False) for name in names]


def stem(text, kind, **marks):
    return (text, kind, "x", text, marks, 0)


def told_of(kinds, stems, rules, features=()):
    return {"features": list(features), "kinds": kinds, "seams": [], "stems": stems, "endings": [("x", "", {}, 0)],
            "rules": rules, "start": kinds[0][0]}


def rule(name, kind, *parts, bundle=None, agrees=(), order=(0, 0, [])):
    """A rule; parts are written as role, kind, and, where it is so, True for lets."""
    told = [(role, part, {}, bool(lets)) for role, part, *lets in parts]
    return (name, 0, kind, bundle or {}, told, list(agrees), order)


class ByHand(unittest.TestCase):
    def check(self, told, symbols, rows):
        tongue = Tongue(told)
        self.assertEqual(sayable(tongue), symbols)
        self.assertEqual(instances(tongue), rows)

    def test_nothing_at_all(self):
        self.check(told_of(plain_kinds("s"), [], []), [], [])
        self.check(told_of(plain_kinds("s", "n"), [], [rule("r", "s", ("head", "n"))]), [], [])

    def test_words_alone(self):
        told = told_of([("s", ["num"], False, False), ("m", [], False, True)],
                       [stem("b", "s", num="sg"), stem("a", "s", num="pl"), stem("c", "s", num="sg"),
                        ("d", "m", "x", "", {}, 0)], [], [NUM])
        self.check(told, [("m", (), ()), ("s", ("pl",), ()), ("s", ("sg",), ())], [])

    def test_gaps_are_there_without_words(self):
        told = told_of([("s", [], False, False), ("g", ["num"], True, False)], [], [], [NUM])
        self.check(told, [("g", ("pl",), ("g", ("pl",))), ("g", ("sg",), ("g", ("sg",)))], [])

    def test_a_rule_and_one_over_it(self):
        told = told_of(plain_kinds("s", "n", "v"), [stem("a", "n"), stem("b", "v")],
                       [rule("ra", "s", ("by", "n"), ("head", "v")), rule("rb", "n", ("head", "s"), ("by", "n"))])
        n, s, v = ("n", (), ()), ("s", (), ()), ("v", (), ())
        self.check(told, [n, s, v], [(0, (n, v), s), (1, (s, n), n)])

    def test_agreement(self):
        features = [NUM, ("gen", ["m", "f"], False)]
        told = told_of([("s", ["gen"], False, False), ("n", ["num", "gen"], False, False), ("v", ["num"], False, False)],
                       [stem("a", "n", num="sg", gen="m"), stem("b", "n", num="pl", gen="f"),
                        stem("c", "n", num="pl", gen="m"), stem("d", "v", num="pl")],
                       [rule("r", "s", ("by", "n"), ("head", "v"),
                             agrees=[[(0, "num"), (1, "num")], [(-1, "gen"), (0, "gen")]])], features)
        f, m, v = ("n", ("pl", "f"), ()), ("n", ("pl", "m"), ()), ("v", ("pl",), ())
        self.check(told, [f, m, ("n", ("sg", "m"), ()), ("s", ("f",), ()), ("s", ("m",), ()), v],
                   [(0, (f, v), ("s", ("f",), ())), (0, (m, v), ("s", ("m",), ()))])

    def three(self, *agrees):
        """Which texts can stand as three parts of two features each, that agree so."""
        features = [NUM, ("gen", ["m", "f"], False)]
        stems = [stem(text, "n", num=num, gen=gen)
                 for text, num, gen in (("a", "pl", "f"), ("b", "pl", "m"), ("c", "sg", "f"), ("d", "sg", "m"))]
        parts = (("head", "n"), ("by", "n"), ("to", "n"))
        told = told_of([("s", ["num"], False, False), ("n", ["num", "gen"], False, False)], stems,
                       [rule("r", "s", *parts, bundle={} if any((-1, "num") in group for group in agrees) else {"num": ["sg"]},
                             agrees=agrees)], features)
        names = {("n", (num, gen), ()): text for text, _, _, _, marks, _ in stems
                 for num, gen in [(marks["num"], marks["gen"])]}
        return ["".join(names[symbol] for symbol in symbols) + whole[1][0][0]
                for _, symbols, whole in instances(Tongue(told))]

    def test_groups_in_a_chain(self):
        # The first two have one gender, the last two one number; the first and the last aren't tied.
        got = self.three([(0, "gen"), (1, "gen")], [(1, "num"), (2, "num")])
        want = [one + two + three + "s" for one, two, three in itertools.product("abcd", repeat=3)
                if (one in "ac") == (two in "ac") and (two in "ab") == (three in "ab")]
        self.assertEqual(got, want)
        self.assertEqual(len(got), 16)

    def test_groups_that_share_a_pair_of_the_whole(self):
        got = self.three([(-1, "num"), (0, "num")], [(2, "num"), (-1, "num")])
        want = [one + two + three + ("p" if one in "ab" else "s")
                for one, two, three in itertools.product("abcd", repeat=3) if (one in "ab") == (three in "ab")]
        self.assertEqual(got, want)

    def test_groups_that_share_a_pair_of_a_part(self):
        got = self.three([(0, "num"), (1, "num")], [(2, "gen"), (0, "gen")], [(2, "num"), (1, "num")])
        want = [one + two + three + "s" for one, two, three in itertools.product("abcd", repeat=3)
                if one == three and (one in "ab") == (two in "ab")]
        self.assertEqual(got, want)

    def test_groups_that_come_together_by_a_third(self):
        got = self.three([(-1, "num"), (0, "num")], [(1, "num"), (2, "num")], [(0, "num"), (1, "num")])
        want = [one + two + three + ("p" if one in "ab" else "s") for one, two, three in itertools.product("abcd", repeat=3)
                if (one in "ab") == (two in "ab") == (three in "ab")]
        self.assertEqual(got, want)

    def test_a_group_within_one_part(self):
        self.assertEqual(self.three([(0, "num"), (0, "gen")]), [])

    def test_values_of_another_feature(self):
        told = told_of([("s", ["num"], False, False), ("n", ["gen"], True, False)], [stem("a", "n", gen="m")],
                       [rule("r", "s", ("head", "n"), agrees=[[(-1, "num"), (0, "gen")]])],
                       [NUM, ("gen", ["m", "f"], True)])
        m, s = ("n", ("m",), ()), ("s", ("m",), ())
        self.check(told, [("n", ("f",), ("n", ("f",))), m, ("n", ("m",), ("n", ("m",))), s], [(0, (m,), s)])

    def test_gaps_pass_where_a_part_lets(self):
        told = told_of([("s", [], False, False), ("n", [], True, False), ("v", [], False, False)],
                       [stem("a", "n"), stem("b", "v")],
                       [rule("ra", "s", ("by", "n", True), ("head", "v", True), ("to", "n"))])
        n, gap, s, v = ("n", (), ()), ("n", (), ("n", ())), ("s", (), ()), ("v", (), ())
        gapped = ("s", (), ("n", ()))
        self.check(told, [n, gap, s, gapped, v], [(0, (n, v, n), s), (0, (gap, v, n), gapped)])

    def test_one_gap_at_most(self):
        told = told_of([("n", [], True, False)], [],
                       [rule("r", "n", ("head", "n", True), ("by", "n", True))])
        self.check(told, [("n", (), ("n", ()))], [])
        told["stems"] = [stem("a", "n")]
        n, gap = ("n", (), ()), ("n", (), ("n", ()))
        self.check(told, [n, gap], [(0, (n, n), n), (0, (n, gap), gap), (0, (gap, n), gap)])

    def test_host_and_fill(self):
        told = told_of([("s", [], False, False), ("n", ["num"], True, False), ("v", [], False, False)],
                       [stem("a", "n", num="sg"), stem("b", "v")],
                       [rule("ra", "v", ("head", "v"), ("to", "n", True)),
                        rule("rb", "s", ("fill", "n"), ("host", "v", True))], [NUM])
        n, v, s = ("n", ("sg",), ()), ("v", (), ()), ("s", (), ())
        gaps = [("n", (num,), ("n", (num,))) for num in ("pl", "sg")]
        held = [("v", (), ("n", (num,))) for num in ("pl", "sg")]
        self.check(told, sorted([n, v, s, *gaps, *held]),
                   [(0, (v, gaps[0]), held[0]), (0, (v, n), v), (0, (v, gaps[1]), held[1]), (1, (n, held[1]), s)])

    def test_a_fill_of_several_kinds_of_gaps(self):
        told = told_of([("s", [], False, False), ("a", [], True, False), ("b", [], True, False)],
                       [stem("a", "a"), stem("b", "b")],
                       [rule("ra", "s", ("fill", "a"), ("host", "s", True)),
                        rule("rb", "s", ("head", "a", True), ("by", "b", True))])
        a, b, s = ("a", (), ()), ("b", (), ()), ("s", (), ())
        over_a, over_b = ("s", (), ("a", ())), ("s", (), ("b", ()))
        gap_a, gap_b = ("a", (), ("a", ())), ("b", (), ("b", ()))
        self.check(told, sorted([a, b, s, over_a, over_b, gap_a, gap_b]),
                   [(0, (a, over_a), s), (1, (a, b), s), (1, (a, gap_b), over_b), (1, (gap_a, b), over_a)])

    def test_rules_that_never_stand(self):
        told = told_of([("s", ["num"], False, False), ("n", ["num"], False, False), ("k", [], False, False)],
                       [stem("a", "n", num="sg")],
                       [rule("ra", "s", ("head", "n"), ("by", "k"), bundle={"num": ["sg"]}),
                        rule("rb", "s", ("head", "n"), bundle={"num": ["pl"]}, agrees=[[(-1, "num"), (0, "num")]]),
                        rule("rc", "s", ("head", "k"), bundle={"num": ["sg"]}),
                        rule("rd", "k", ("head", "k"), ("by", "n"))], [NUM])
        self.check(told, [("n", ("sg",), ())], [])

    def test_a_rule_whose_bundle_never_agrees(self):
        kinds = [("s", ["num", "gen"], False, False), ("n", [], False, False)]
        told = told_of(kinds, [stem("a", "n")],
                       [rule("r", "s", ("head", "n"), bundle={"num": ["sg"], "gen": ["m"]},
                             agrees=[[(-1, "num"), (-1, "gen")]])], [NUM, ("gen", ["m", "sg"], True)])
        self.check(told, [("n", (), ())], [])
        told["rules"][0][3]["gen"][0] = "sg"
        self.check(told, [("n", (), ()), ("s", ("sg", "sg"), ())], [(0, (("n", (), ()),), ("s", ("sg", "sg"), ()))])

    def test_a_rule_that_leads_to_itself_through_a_part_with_a_role(self):
        told = told_of([("s", ["num"], False, False)], [stem("a", "s", num="sg"), stem("b", "s", num="pl")],
                       [rule("r", "s", ("head", "s"), ("by", "s"), agrees=[[(-1, "num"), (1, "num")]])], [NUM])
        pl, sg = ("s", ("pl",), ()), ("s", ("sg",), ())
        self.check(told, [pl, sg], [(0, (pl, pl), pl), (0, (pl, sg), sg), (0, (sg, pl), pl), (0, (sg, sg), sg)])

    def test_several_steps_up_to_a_new_symbol(self):
        names = ["a", "b", "c", "d"]
        rules = [rule("r" + one, one, ("head", other)) for one, other in zip(names, names[1:])]
        symbols = [(name, (), ()) for name in names]
        self.check(told_of(plain_kinds(*names), [stem("a", "d")], rules),
                   symbols, [(at, (symbols[at + 1],), symbols[at]) for at in range(3)])

    def test_part_bundles(self):
        kinds = [("s", [], False, False), ("n", ["num"], False, False)]
        told = told_of(kinds, [stem("a", "n", num="sg"), stem("b", "n", num="pl")], [], [NUM])
        told["rules"] = [("r", 0, "s", {}, [("head", "n", {"num": ["pl"]}, False)], [], (0, 0, []))]
        pl = ("n", ("pl",), ())
        self.check(told, [pl, ("n", ("sg",), ()), ("s", (), ())], [(0, (pl,), ("s", (), ()))])

    def test_the_small_tongue(self):
        tongue = Tongue(small())
        symbols, rows = Plain(small()).grown()
        self.assertEqual(sayable(tongue), sorted(symbols))
        self.assertEqual(instances(tongue), sorted(rows))
        self.assertIn(("s", ("now",), ()), sayable(tongue))
        self.assertNotIn(("np", ("pl", "one"), ()), sayable(tongue))


class Bounds(unittest.TestCase):
    """As many symbols and instances as [3] promises of, and rules of five parts."""

    def wide(self, agrees, many=2, values=(4, 4, 5, 5)):
        features = [("f" + "abcd"[at], ["v" + "abcdef"[value] for value in range(top)], True)
                    for at, top in enumerate(values)]
        names = [feature[0] for feature in features]
        kinds = [("s", [], False, False), ("n", names, False, False), ("k", [], False, False)]
        stems = [stem("a", "n", **dict(zip(names, chosen)))
                 for chosen in itertools.product(*[feature[1] for feature in features[:2]])]
        parts = [("head", "n"), *[("by", "n")] * (many - 1)]
        told = told_of(kinds, stems, [rule("r", "s", *parts, agrees=agrees)], features)
        told["endings"] = [("x", "", dict(zip(names[2:], chosen)), 0)
                           for chosen in itertools.product(*[feature[1] for feature in features[2:]])]
        return told

    def test_400_symbols(self):
        agrees = [[(0, name), (1, name)] for name in ("fa", "fb", "fc")]
        tongue = Tongue(self.wide(agrees))
        self.assertEqual((len(sayable(tongue)), len(instances(tongue))), (401, 2000))

    def test_10000_instances(self):
        tongue = Tongue(self.wide([], values=(2, 5, 2, 5)))
        self.assertEqual((len(sayable(tongue)), len(instances(tongue))), (101, 10000))
        self.assertEqual(instances(tongue), sorted(instances(tongue)))

    def test_five_parts_that_agree(self):
        agrees = [[(at, name) for at in range(5)] for name in ("fa", "fb", "fc", "fd")]
        tongue = Tongue(self.wide(agrees, 5))
        self.assertEqual(len(instances(tongue)), 400)

    def test_five_parts_one_of_which_is_never_there(self):
        told = self.wide([], 4)
        told["rules"][0][4].append(("to", "k", {}, False))
        self.assertEqual(instances(Tongue(told)), [])

    def test_five_parts_one_of_which_never_agrees(self):
        told = self.wide([[(at, "fa") for at in range(5)]], 5)
        told["kinds"].append(("z", ["fa"], False, False))
        told["rules"][0][4][4] = ("to", "z", {}, False)
        self.assertEqual(instances(Tongue(told)), [])


class All(unittest.TestCase):
    def test_as_a_plain_teller_tells(self):
        for told, tongue in tongues(11, 150):
            symbols, rows = Plain(told).grown()
            self.assertEqual(sayable(tongue), sorted(symbols), told)
            self.assertEqual(instances(tongue), sorted(rows), told)

    def test_told_lists_that_are_changed(self):
        tongue = Tongue(small())
        symbols, rows = sayable(tongue), instances(tongue)
        kept = (list(symbols), list(rows))
        symbols.clear()
        rows.reverse()
        rows.append("x")
        self.assertEqual((sayable(tongue), instances(tongue)), kept)

    def test_what_is_told_is_lists_of_tuples(self):
        tongue = Tongue(small())
        self.assertIs(type(sayable(tongue)), list)
        self.assertIs(type(instances(tongue)), list)
        for kind, values, gap in sayable(tongue):
            self.assertEqual((type(values), type(gap)), (tuple, tuple))
        for row in instances(tongue):
            self.assertEqual([type(thing) for thing in row], [int, tuple, tuple])

    def test_one_part_rules(self):
        told = one_rule(rule("r", "s", ("head", "n", True)), [("s", [], False, False), ("n", [], True, False)])
        tongue = Tongue(told)
        gap = ("n", ())
        self.assertEqual(sayable(tongue), [("n", (), gap), ("s", (), gap)])
        self.assertEqual(instances(tongue), [(0, (("n", (), gap),), ("s", (), gap))])

    def test_they_are_defined_in_their_file(self):
        for name in ("sayable", "instances"):
            self.assertEqual(getattr(growing_file, name).__module__, "speechloom.growing")


if __name__ == "__main__":
    unittest.main()
