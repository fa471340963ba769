"""[4], and [1], [2], [3] as far as they speak of bundles."""

import copy
import itertools
import unittest

from speechloom import bundles as bundles_file
from speechloom.bundles import agreed, choices, clash, joined, joined_all, lets, lies_in

NUM = ("num", ["sg", "du", "pl"], True)
GEN = ("gen", ["m", "f"], False)
PER = ("per", ["sg", "m"], False)
FEATURES = [NUM, GEN, PER]


def small_bundles():
    """All bundles over num and gen, the features in either order."""
    nums = [None, ["sg"], ["du"], ["pl"], ["sg", "du"], ["sg", "pl"], ["du", "pl"], ["sg", "du", "pl"]]
    gens = [None, ["m"], ["f"], ["m", "f"]]
    for num, gen in itertools.product(nums, gens):
        pairs = [(name, values) for name, values in (("num", num), ("gen", gen)) if values]
        yield {name: list(values) for name, values in pairs}
        if len(pairs) == 2:
            yield {name: list(values) for name, values in reversed(pairs)}


def small_marks():
    """All marks over num and gen."""
    for num, gen in itertools.product([None, "sg", "du", "pl"], [None, "m", "f"]):
        yield {name: value for name, value in (("num", num), ("gen", gen)) if value}


def lists_within(things):
    """The identities of all lists and dicts among these things, and within them."""
    found = set()
    for thing in things:
        if isinstance(thing, dict):
            found |= {id(thing)} | lists_within(thing.values())
        elif isinstance(thing, list):
            found |= {id(thing)} | lists_within(thing)
        elif isinstance(thing, tuple):
            found |= lists_within(thing)
    return found


class Asked(unittest.TestCase):
    """Asks with checks of [2]: what is handed in stays, what is told is new and is told again."""

    def ask(self, question, *handed):
        before = copy.deepcopy(handed)
        told = question(*handed)
        self.assertEqual(repr(handed), repr(before))
        self.assertFalse(lists_within([told]) & lists_within(handed))
        first = copy.deepcopy(told)
        self.spoil(told)
        self.assertEqual(repr(handed), repr(before))
        self.assertEqual(repr(question(*handed)), repr(first))
        return first

    def spoil(self, told):
        if isinstance(told, dict):
            for values in told.values():
                values.append("spoilt")
            told["spoilt"] = ["spoilt"]
        elif isinstance(told, list):
            told.append("spoilt")


class Joined(Asked):
    def joins(self, one, other, want):
        told = self.ask(joined, one, other)
        self.assertEqual(told, want)
        if want is not None:
            self.assertEqual(list(told), list(want))

    def test_values_of_both_stand_in_ones_order(self):
        self.joins({"num": ["sg", "du", "pl"]}, {"num": ["pl", "sg"]}, {"num": ["sg", "pl"]})
        self.joins({"num": ["pl", "sg"]}, {"num": ["sg", "du", "pl"]}, {"num": ["pl", "sg"]})

    def test_features_of_one_stand_first(self):
        one = {"num": ["sg"], "gen": ["m", "f"]}
        other = {"per": ["m"], "gen": ["f"], "case": ["acc"], "num": ["sg", "pl"]}
        self.joins(one, other, {"num": ["sg"], "gen": ["f"], "per": ["m"], "case": ["acc"]})
        self.joins(other, one, {"per": ["m"], "gen": ["f"], "case": ["acc"], "num": ["sg"]})

    def test_a_feature_of_one_alone_or_of_the_other_alone(self):
        self.joins({"num": ["sg", "pl"]}, {}, {"num": ["sg", "pl"]})
        self.joins({}, {"num": ["sg", "pl"]}, {"num": ["sg", "pl"]})
        self.joins({"num": ["sg"]}, {"gen": ["m"]}, {"num": ["sg"], "gen": ["m"]})

    def test_two_empty_bundles(self):
        self.joins({}, {}, {})

    def test_no_value_left(self):
        self.joins({"num": ["sg"]}, {"num": ["pl"]}, None)
        self.joins({"num": ["sg"], "gen": ["m"]}, {"gen": ["f"], "num": ["sg"]}, None)
        self.joins({"gen": ["m"], "num": ["sg", "du"]}, {"gen": ["m", "f"], "num": ["pl"]}, None)

    def test_like_values_of_unlike_features_are_not_mixed(self):
        self.joins({"num": ["sg"]}, {"per": ["m"]}, {"num": ["sg"], "per": ["m"]})
        self.joins({"num": ["sg"], "per": ["m"]}, {"num": ["sg"], "per": ["sg"]}, None)

    def test_a_bundle_with_itself(self):
        one = {"num": ["sg", "pl"], "gen": ["f"]}
        self.joins(one, one, {"num": ["sg", "pl"], "gen": ["f"]})

    def test_the_told_dict_and_its_lists_are_new(self):
        one, other = {"num": ["sg", "pl"], "gen": ["m"]}, {"num": ["sg", "pl"], "per": ["m"]}
        told = joined(one, other)
        for name in told:
            for handed in (one, other):
                self.assertIsNot(told[name], handed.get(name))
        one["gen"].append("f")
        other["per"].clear()
        self.assertEqual(told, {"num": ["sg", "pl"], "gen": ["m"], "per": ["m"]})

    def test_the_told_may_be_handed_in_again(self):
        told = joined({"num": ["sg", "pl"]}, {"gen": ["m"]})
        self.joins(told, {"num": ["pl"]}, {"num": ["pl"], "gen": ["m"]})

    def test_it_holds_all_that_was_told_and_no_more(self):
        for one, other in itertools.product(list(small_bundles()), repeat=2):
            told = self.ask(joined, one, other)
            for marks in small_marks():
                both = lets(one, marks) and lets(other, marks)
                self.assertEqual(told is not None and lets(told, marks), both)


class Clash(Asked):
    def clashes(self, one, other, want):
        self.assertEqual(self.ask(clash, one, other), want)
        self.assertEqual(self.ask(clash, other, one), want)

    def test_the_least_of_several(self):
        one = {"num": ["sg"], "gen": ["m"], "per": ["m"]}
        other = {"per": ["sg"], "num": ["pl"], "gen": ["m"]}
        self.clashes(one, other, "num")
        self.clashes({"b": ["x"], "ab": ["x"], "a": ["x"]}, {"b": ["y"], "ab": ["y"], "a": ["x"]}, "ab")

    def test_the_only_one(self):
        self.clashes({"num": ["sg", "du"], "gen": ["m"]}, {"num": ["pl"], "gen": ["m"]}, "num")

    def test_none(self):
        self.clashes({"num": ["sg", "du"]}, {"num": ["pl", "du"]}, None)
        self.clashes({"num": ["sg"]}, {"gen": ["m"]}, None)
        self.clashes({"num": ["sg"]}, {}, None)
        self.clashes({}, {}, None)

    def test_there_is_a_clash_just_where_there_is_no_join(self):
        for one, other in itertools.product(list(small_bundles()), repeat=2):
            apart = [name for name in one if name in other and not set(one[name]) & set(other[name])]
            self.clashes(one, other, sorted(apart)[0] if apart else None)
            self.assertEqual(joined(one, other) is None, bool(apart))


class JoinedAll(Asked):
    def test_of_none(self):
        self.assertEqual(self.ask(joined_all, []), {})

    def test_of_one(self):
        bundle = {"num": ["pl", "sg"], "gen": ["m"]}
        told = self.ask(joined_all, [bundle])
        self.assertEqual(list(told.items()), [("num", ["pl", "sg"]), ("gen", ["m"])])
        told = joined_all([bundle])
        self.assertIsNot(told, bundle)
        self.assertIsNot(told["num"], bundle["num"])
        self.assertEqual(self.ask(joined_all, [{}]), {})

    def test_of_several_from_the_first_on(self):
        rows = [{"gen": ["f", "m"]}, {"num": ["pl", "sg", "du"]}, {"per": ["m"], "num": ["sg", "pl"], "gen": ["m", "f"]}]
        told = self.ask(joined_all, rows)
        self.assertEqual(list(told.items()), [("gen", ["f", "m"]), ("num", ["pl", "sg"]), ("per", ["m"])])

    def test_no_value_left(self):
        self.assertIsNone(self.ask(joined_all, [{"num": ["sg"]}, {"num": ["pl"]}]))
        self.assertIsNone(self.ask(joined_all, [{"num": ["sg"]}, {"num": ["pl"]}, {"gen": ["m"]}, {}]))

    def test_the_last_one_leaves_no_value(self):
        self.assertIsNone(self.ask(joined_all, [{"num": ["sg", "pl"]}, {"gen": ["m"]}, {"num": ["du"]}]))
        self.assertIsNone(self.ask(joined_all, [{"num": ["sg", "pl"]}, {"num": ["pl", "du"]}, {"num": ["sg", "du"]}]))

    def test_one_bundle_twice(self):
        bundle = {"num": ["sg"]}
        self.assertEqual(self.ask(joined_all, [bundle, bundle]), {"num": ["sg"]})


class Lets(Asked):
    def test_ordinary_marks(self):
        self.assertIs(self.ask(lets, {"num": ["sg", "pl"]}, {"num": "pl"}), True)
        self.assertIs(self.ask(lets, {"num": ["sg", "pl"]}, {"num": "du"}), False)
        bundle = {"num": ["sg", "pl"], "gen": ["m"]}
        self.assertIs(self.ask(lets, bundle, {"gen": "m", "num": "sg"}), True)
        self.assertIs(self.ask(lets, bundle, {"gen": "f", "num": "sg"}), False)
        self.assertIs(self.ask(lets, bundle, {"gen": "m", "num": "du"}), False)

    def test_empty_ones(self):
        self.assertIs(self.ask(lets, {}, {}), True)
        self.assertIs(self.ask(lets, {}, {"num": "sg"}), True)
        self.assertIs(self.ask(lets, {"num": ["sg"]}, {}), False)

    def test_a_feature_that_is_missing(self):
        self.assertIs(self.ask(lets, {"num": ["sg"], "gen": ["m"]}, {"num": "sg"}), False)
        self.assertIs(self.ask(lets, {"num": ["sg"]}, {"num": "sg", "gen": "m"}), True)

    def test_a_value_of_another_feature(self):
        self.assertIs(self.ask(lets, {"num": ["sg"], "per": ["m"]}, {"num": "m", "per": "sg"}), False)

    def test_a_part_of_a_value_is_not_the_value(self):
        self.assertIs(self.ask(lets, {"num": ["sg"]}, {"num": "s"}), False)


class LiesIn(Asked):
    def test_some_all_and_none_of_the_values(self):
        self.assertIs(self.ask(lies_in, {"num": ["sg", "pl"]}, {"num": ["pl", "du", "sg"]}), True)
        self.assertIs(self.ask(lies_in, {"num": ["sg", "pl"]}, {"num": ["sg", "pl"]}), True)
        self.assertIs(self.ask(lies_in, {"num": ["sg", "pl"]}, {"num": ["pl"]}), False)
        self.assertIs(self.ask(lies_in, {"num": ["pl", "sg"]}, {"num": ["pl"]}), False)
        self.assertIs(self.ask(lies_in, {"num": ["sg"]}, {"num": ["du", "pl"]}), False)

    def test_empty_ones(self):
        self.assertIs(self.ask(lies_in, {}, {}), True)
        self.assertIs(self.ask(lies_in, {"num": ["sg"]}, {}), True)
        self.assertIs(self.ask(lies_in, {}, {"num": ["sg"]}), False)

    def test_a_feature_that_is_missing(self):
        self.assertIs(self.ask(lies_in, {"num": ["sg"]}, {"num": ["sg"], "gen": ["m", "f"]}), False)
        self.assertIs(self.ask(lies_in, {"num": ["sg"], "gen": ["m"]}, {"num": ["sg"]}), True)

    def test_one_feature_of_several(self):
        one = {"num": ["sg"], "gen": ["m", "f"]}
        self.assertIs(self.ask(lies_in, one, {"num": ["sg", "pl"], "gen": ["m"]}), False)
        self.assertIs(self.ask(lies_in, one, {"gen": ["f", "m"], "num": ["sg", "pl"]}), True)

    def test_what_one_lets_other_lets(self):
        for one, other in itertools.product(list(small_bundles()), repeat=2):
            let = all(lets(other, marks) for marks in small_marks() if lets(one, marks))
            self.assertIs(self.ask(lies_in, one, other), let)

    def test_a_join_lies_in_both(self):
        for one, other in itertools.product(list(small_bundles()), repeat=2):
            told = joined(one, other)
            if told is not None:
                self.assertTrue(lies_in(told, one) and lies_in(told, other))


class Choices(Asked):
    def test_no_names(self):
        self.assertEqual(self.ask(choices, FEATURES, [], {}), [()])
        self.assertEqual(self.ask(choices, [], [], {}), [()])
        self.assertEqual(self.ask(choices, FEATURES, [], {"num": ["sg"]}), [])

    def test_one_name(self):
        self.assertEqual(self.ask(choices, FEATURES, ["num"], {}), [("sg",), ("du",), ("pl",)])
        self.assertEqual(self.ask(choices, FEATURES, ["num"], {"num": ["sg", "pl"]}), [("sg",), ("pl",)])

    def test_the_first_names_places_come_first(self):
        want = [("sg", "m"), ("sg", "f"), ("du", "m"), ("du", "f"), ("pl", "m"), ("pl", "f")]
        self.assertEqual(self.ask(choices, FEATURES, ["num", "gen"], {}), want)

    def test_names_in_another_order_than_the_features(self):
        want = [("m", "sg"), ("m", "du"), ("m", "pl"), ("f", "sg"), ("f", "du"), ("f", "pl")]
        self.assertEqual(self.ask(choices, FEATURES, ["gen", "num"], {}), want)
        self.assertEqual(self.ask(choices, FEATURES, ["per", "gen"], {"gen": ["f"]}), [("sg", "f"), ("m", "f")])

    def test_places_count_and_not_letters_nor_the_bundles_order(self):
        features = [("size", ["z", "a", "m"], True)]
        self.assertEqual(self.ask(choices, features, ["size"], {}), [("z",), ("a",), ("m",)])
        self.assertEqual(self.ask(choices, features, ["size"], {"size": ["m", "z"]}), [("z",), ("m",)])

    def test_a_feature_that_is_not_among_the_names(self):
        self.assertEqual(self.ask(choices, FEATURES, ["num"], {"gen": ["m"]}), [])
        self.assertEqual(self.ask(choices, FEATURES, ["num"], {"num": ["sg"], "per": ["m", "sg"]}), [])

    def test_values_of_several_features_alike(self):
        want = [("sg", "m", "sg"), ("sg", "m", "m"), ("sg", "f", "sg"), ("sg", "f", "m")]
        self.assertEqual(self.ask(choices, FEATURES, ["num", "gen", "per"], {"num": ["sg"]}), want)
        bundle = {"per": ["m"], "gen": ["m"], "num": ["sg"]}
        self.assertEqual(self.ask(choices, FEATURES, ["per", "num", "gen"], bundle), [("m", "sg", "m")])

    def test_a_value_that_the_feature_has_not(self):
        self.assertEqual(self.ask(choices, FEATURES, ["num"], {"num": ["few"]}), [])
        self.assertEqual(self.ask(choices, FEATURES, ["gen", "num"], {"num": ["few", "pl"]}), [("m", "pl"), ("f", "pl")])

    def test_all_choices_of_all_small_bundles(self):
        known = {name: values for name, values, told in FEATURES}
        for size in range(4):
            for names in itertools.permutations(known, size):
                rows = list(itertools.product(*[known[name] for name in names]))
                for bundle in small_bundles():
                    want = [row for row in rows if lets(bundle, dict(zip(names, row)))]
                    self.assertEqual(choices(FEATURES, list(names), bundle), want)

    def test_the_most_that_a_kind_has(self):
        features = [(name, ["u", "v", "w", "x", "y", "z"], False) for name in ("a", "b", "c", "d", "e", "f")]
        rows = choices(features, ["f", "a", "c", "b"], {})
        self.assertEqual(rows, list(itertools.product("uvwxyz", repeat=4)))


class Agreed(Asked):
    ROWS = [{"num": "sg", "gen": "m"}, {"num": "sg", "gen": "f"}, {"num": "pl", "gen": "m", "per": "sg"}]

    def test_no_groups(self):
        self.assertIs(self.ask(agreed, [], self.ROWS), True)
        self.assertIs(self.ask(agreed, [], []), True)

    def test_a_group_of_one_pair(self):
        self.assertIs(self.ask(agreed, [[(1, "gen")]], self.ROWS), True)

    def test_a_pair_twice(self):
        self.assertIs(self.ask(agreed, [[(0, "num"), (0, "num")]], self.ROWS), True)
        self.assertIs(self.ask(agreed, [[(0, "num"), (2, "num"), (0, "num")]], self.ROWS), False)

    def test_like_and_unlike_values(self):
        self.assertIs(self.ask(agreed, [[(0, "num"), (1, "num")]], self.ROWS), True)
        self.assertIs(self.ask(agreed, [[(0, "gen"), (1, "gen")]], self.ROWS), False)
        self.assertIs(self.ask(agreed, [[(0, "num"), (1, "num"), (2, "num")]], self.ROWS), False)

    def test_unlike_features_of_one_value(self):
        self.assertIs(self.ask(agreed, [[(0, "num"), (2, "per")]], self.ROWS), True)
        self.assertIs(self.ask(agreed, [[(2, "num"), (2, "per")]], self.ROWS), False)

    def test_the_last_row(self):
        self.assertIs(self.ask(agreed, [[(-1, "gen"), (0, "gen")]], self.ROWS), True)
        self.assertIs(self.ask(agreed, [[(0, "num"), (-1, "num")]], self.ROWS), False)
        self.assertIs(self.ask(agreed, [[(-1, "num"), (2, "num")]], self.ROWS), True)

    def test_unlike_values_in_one_of_several_groups(self):
        good, bad = [(0, "num"), (1, "num")], [(1, "gen"), (2, "gen")]
        self.assertIs(self.ask(agreed, [good, good], self.ROWS), True)
        self.assertIs(self.ask(agreed, [bad, good], self.ROWS), False)
        self.assertIs(self.ask(agreed, [good, bad, good], self.ROWS), False)
        self.assertIs(self.ask(agreed, [good, good, bad], self.ROWS), False)

    def test_groups_need_not_agree_with_each_other(self):
        self.assertIs(self.ask(agreed, [[(0, "num")], [(2, "num")]], self.ROWS), True)


class Interface(unittest.TestCase):
    def test_each_is_defined_in_its_file(self):
        for name in ("joined", "clash", "joined_all", "lets", "lies_in", "choices", "agreed"):
            self.assertEqual(getattr(bundles_file, name).__module__, "speechloom.bundles")


if __name__ == "__main__":
    unittest.main()
