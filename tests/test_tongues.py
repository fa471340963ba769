"""[9], and what [3] to [7] ask of each thing: Tongue."""

import copy
import itertools
import unittest

from helper import small, tongues
from speechloom import tongues as tongues_file
from speechloom.errors import BadTongue, SpeechError
from speechloom.tongues import Tongue
from speechloom.words import analyses, forms

LISTS = ("features", "kinds", "seams", "stems", "endings", "rules")
WORDS = {"features": "feature", "kinds": "kind", "seams": "seam", "stems": "stem", "endings": "ending",
         "rules": "rule"}
LONG = "abcdefgh"
TOO_LONG = "abcdefghi"
# Texts that are no NAMEs.
NO_NAMES = ("", TOO_LONG, "Ab", "a b", "a1", "a-b", "\u00e9", "a\n", "_")


def base():
    """A tongue with room for one thing more of each list, on which the rules below can be tried."""
    return {
        "features": [("num", ["sg", "pl"], True), ("gen", ["m", "f", "sg"], False)],
        "kinds": [("s", [], False, False), ("n", ["num", "gen"], True, False), ("m", ["num"], False, True),
                  ("k", ["gen"], False, False)],
        "seams": [("y", "s", "ies")],
        "stems": [("cat", "n", "x", "cat", {"gen": "m"}, 3), ("the", "m", "y", "", {}, 0)],
        "endings": [("x", "s", {"num": "pl"}, 1), ("y", "", {"num": "sg"}, 0)],
        "rules": [("top", 4, "s", {}, [("head", "n", {}, True)], [], (0, 0, []))],
        "start": "s",
    }


def why(told):
    """The field of the refusal, or None where there is none."""
    try:
        Tongue(told)
    except BadTongue as bad:
        return bad.why
    return None


def with_more(name, *things):
    """The base with more things at the end of a list."""
    told = base()
    told[name].extend(things)
    return told


def names(many):
    """So many unlike NAMEs."""
    letters = "abcdefghijklmnopqrstuvwxyz"
    return ["z" + one + other for one, other in itertools.product(letters, letters)][:many]


def rule(**changes):
    """A sound rule of the base, with changes."""
    told = {"name": "more", "rank": 0, "kind": "n", "bundle": {},
            "parts": [("head", "n", {}, True), ("by", "k", {}, True), ("-", "m", {}, False)],
            "agrees": [[(-1, "num"), (0, "num"), (2, "num")], [(0, "gen"), (-1, "gen")]], "order": (1, 5, [(0, 1)])}
    told.update(changes)
    return tuple(told[name] for name in ("name", "rank", "kind", "bundle", "parts", "agrees", "order"))


class Checks(unittest.TestCase):
    """Of one thing more in a list of the base: whether it is refused, and how."""

    def check(self, name, thing, sound):
        want = None if sound else (WORDS[name], len(base()[name]))
        self.assertEqual(why(with_more(name, thing)), want, thing)

    def check_all(self, name, sound, unsound):
        for thing in sound:
            self.check(name, thing, True)
        for thing in unsound:
            self.check(name, thing, False)


class Sound(Checks):
    def test_the_base_and_the_small_one_are_sound(self):
        self.assertIsNone(why(base()))
        self.assertIsNone(why(small()))

    def test_names_of_features(self):
        self.check_all("features", [(text, ["a"], True) for text in ("a", LONG, "head", "z")],
                       [(text, ["a"], True) for text in NO_NAMES])

    def test_values_of_features(self):
        six = list("abcdef")
        self.check_all("features", [("f", ["a"], False), ("f", six, True), ("f", ["f", LONG], True)],
                       [("f", [], False), ("f", [*six, "g"], True), ("f", ["a", "b", "a"], True)])
        self.check_all("features", [], [("f", ["a", text], True) for text in NO_NAMES])

    def test_a_feature_with_the_name_of_one_ahead(self):
        self.check_all("features", [("gender", ["m", "f", "sg"], False)], [("gen", ["m", "f", "sg"], False)])

    def test_names_of_kinds(self):
        self.check_all("kinds", [(text, [], False, False) for text in ("a", LONG, "num")],
                       [(text, [], False, False) for text in NO_NAMES])

    def test_features_of_kinds(self):
        self.check_all("kinds", [("a", [], True, False), ("a", ["gen", "num"], False, True)],
                       [("a", ["num", "num"], False, False), ("a", ["per"], False, False), ("a", ["n"], False, False)])

    def test_how_many_features_of_kinds(self):
        for many, want in ((4, None), (5, ("kind", 4))):
            told = base()
            told["features"] += [(name, ["a"], True) for name in names(3)]
            told["kinds"].append(("a", [feature[0] for feature in told["features"]][:many], False, False))
            self.assertEqual(why(told), want)

    def test_gap_and_mute(self):
        self.check_all("kinds", [("a", [], False, False), ("a", [], True, False), ("a", [], False, True)],
                       [("a", [], True, True)])

    def test_a_kind_with_the_name_of_one_ahead(self):
        self.check_all("kinds", [], [("n", ["num", "gen"], True, False), ("s", [], False, False)])

    def test_seams(self):
        self.check_all("seams", [("abc", "abc", "abc"), ("a", "", ""), ("y", "s", "ies")],
                       [("", "a", "a"), ("abcd", "", ""), ("a", "abcd", ""), ("a", "", "abcd"), ("A", "", ""),
                        ("a", "1", ""), ("a", "", "-"), ("a b", "", "")])

    def test_texts_lines_and_atoms_of_stems(self):
        sound = ("dog", "n", "x", "dog", {}, 0)
        for at in (0, 2, 3):
            texts = [(*sound[:at], text, *sound[at + 1:]) for text in ("a", LONG, *NO_NAMES)]
            self.check_all("stems", texts[:2], texts[2:])

    def test_kinds_of_stems(self):
        self.check_all("stems", [("dog", "k", "x", "dog", {}, 0)],
                       [("dog", "none", "x", "dog", {}, 0), ("dog", "", "x", "dog", {}, 0),
                        ("dog", "num", "x", "dog", {}, 0)])

    def test_atoms_of_mute_stems(self):
        self.check_all("stems", [("a", "m", "y", "", {}, 0)],
                       [("a", "m", "y", "one", {}, 0), ("a", "n", "y", "", {}, 0), ("a", "k", "y", "", {}, 0)])

    def test_marks_of_stems(self):
        self.check_all("stems", [("a", "n", "x", "p", {"num": "sg", "gen": "sg"}, 0), ("a", "k", "x", "p", {}, 0)],
                       [("a", "n", "x", "p", {"num": "m"}, 0), ("a", "n", "x", "p", {"num": "dual"}, 0),
                        ("a", "k", "x", "p", {"num": "sg"}, 0), ("a", "n", "x", "p", {"per": "sg"}, 0),
                        ("a", "n", "x", "p", {"num": "sg", "gen": ""}, 0)])

    def test_ranks_of_stems_and_endings(self):
        for rank, sound in ((0, True), (999, True), (-1, False), (1000, False), (10 ** 30, False)):
            self.check("stems", ("a", "n", "x", "p", {}, rank), sound)
            self.check("endings", ("x", "a", {}, rank), sound)

    def test_lines_and_texts_of_endings(self):
        self.check_all("endings", [(text, "a", {}, 0) for text in ("a", LONG)], [(text, "a", {}, 0) for text in NO_NAMES])
        self.check_all("endings", [("x", text, {}, 0) for text in ("", "a", LONG)],
                       [("x", text, {}, 0) for text in NO_NAMES if text])

    def test_marks_of_endings(self):
        self.check_all("endings", [("x", "", {"gen": "f", "num": "pl"}, 0), ("zzz", "", {"gen": "f"}, 0)],
                       [("x", "", {"per": "f"}, 0), ("x", "", {"gen": "pl"}, 0), ("x", "", {"num": "pl", "n": "a"}, 0)])

    def test_seams_stems_and_endings_may_stand_twice(self):
        for name in ("seams", "stems", "endings"):
            self.check(name, base()[name][0], True)


class SoundRules(Checks):
    """The same of one rule more."""

    def check_rules(self, sound, unsound):
        self.check_all("rules", [rule(**changes) for changes in sound], [rule(**changes) for changes in unsound])

    def test_the_rule_is_sound(self):
        self.check_rules([{}], [])

    def test_names(self):
        self.check_rules([{"name": text} for text in ("a", LONG, "head")], [{"name": text} for text in NO_NAMES])

    def test_a_name_of_one_ahead(self):
        self.check_rules([{"name": "tops"}], [{"name": "top"}])

    def test_ranks(self):
        self.check_rules([{"rank": 0}, {"rank": 999}], [{"rank": -1}, {"rank": 1000}])

    def test_the_wholes_kind(self):
        part = {"parts": [("head", "k", {}, True), ("by", "n", {}, False)], "agrees": [], "order": (0, 0, [])}
        self.check_rules([{**part, "kind": "s"}],
                         [{**part, "kind": "m", "bundle": {"num": ["sg"]}}, {**part, "kind": "none"},
                          {**part, "kind": "num"}])

    def test_the_wholes_bundle(self):
        self.check_rules([{"bundle": {"num": ["sg", "pl"]}}, {"bundle": {"gen": ["m", "sg"], "num": ["pl"]}}],
                         [{"bundle": {"num": ["pl", "sg"]}}, {"bundle": {"num": []}}, {"bundle": {"num": ["sg", "sg"]}},
                          {"bundle": {"num": ["m"]}}, {"bundle": {"num": ["sg", "dual"]}}, {"bundle": {"per": ["sg"]}},
                          {"bundle": {"gen": ["f", "m"]}}, {"bundle": {"gen": ["m", "sg", "f"]}}])
        self.check_rules([], [{"kind": "s", "bundle": {"num": ["sg"]}, "agrees": []},
                              {"kind": "k", "bundle": {"num": ["sg"]}, "agrees": [[(-1, "gen"), (1, "gen")]]}])

    def test_how_many_parts(self):
        head, more = ("head", "n", {}, True), ("by", "k", {}, False)
        agrees = [[(-1, "num"), (0, "num")], [(-1, "gen"), (0, "gen")]]
        for many, sound in ((2, True), (5, True), (6, False)):
            self.check("rules", rule(parts=[head, *[more] * (many - 1)], agrees=agrees, order=(0, 0, [])), sound)
        self.check("rules", rule(kind="s", parts=[head], agrees=[], order=(0, 0, [])), True)
        self.check("rules", rule(kind="s", parts=[], agrees=[], order=(0, 0, [])), False)

    def with_part(self, part):
        return {"kind": "s", "parts": [("head", "n", {}, True), part], "agrees": [], "order": (0, 0, [])}

    def test_roles(self):
        self.check_rules([self.with_part((text, "k", {}, True)) for text in ("a", LONG, "heads")],
                         [self.with_part((text, "k", {}, True)) for text in (*NO_NAMES, "--")])

    def test_two_parts_of_one_role(self):
        parts = [("by", "k", {}, True), ("head", "n", {}, True), ("by", "n", {}, True)]
        self.check_rules([{"kind": "s", "parts": parts, "agrees": [], "order": (0, 0, [])}], [])

    def test_kinds_of_parts(self):
        self.check_rules([self.with_part(("-", "m", {}, False)), self.with_part(("by", "n", {}, False))],
                         [self.with_part(("-", "n", {}, False)), self.with_part(("by", "m", {}, False)),
                          self.with_part(("by", "none", {}, False)), self.with_part(("by", "", {}, False)),
                          {"kind": "s", "parts": [("head", "m", {}, False)], "agrees": [], "order": (0, 0, [])}])

    def test_mute_parts_do_not_let(self):
        self.check_rules([], [self.with_part(("-", "m", {}, True))])

    def test_bundles_of_parts(self):
        self.check_rules([self.with_part(("by", "k", {"gen": ["m", "sg"]}, True)),
                          self.with_part(("-", "m", {"num": ["pl"]}, False))],
                         [self.with_part(("by", "k", {"gen": ["sg", "m"]}, True)),
                          self.with_part(("by", "k", {"gen": []}, True)),
                          self.with_part(("by", "k", {"gen": ["pl"]}, True)),
                          self.with_part(("by", "k", {"num": ["sg"]}, True)),
                          self.with_part(("-", "m", {"gen": ["m"]}, False))])

    def with_roles(self, *roles):
        """A rule of parts of these roles; hosts let, fills are of a kind of gaps."""
        parts = [(role, "m" if role == "-" else "n", {}, role not in ("-", "fill")) for role in roles]
        return {"kind": "s", "parts": parts, "agrees": [], "order": (0, 0, [])}

    def test_heads_hosts_and_fills(self):
        self.check_rules([self.with_roles("head"), self.with_roles("host", "fill"), self.with_roles("fill", "host"),
                          self.with_roles("-", "fill", "-", "host", "-"), self.with_roles("by", "-", "head", "to")],
                         [self.with_roles("head", "head"), self.with_roles("by"), self.with_roles("-"),
                          self.with_roles("host"), self.with_roles("fill"), self.with_roles("host", "host"),
                          self.with_roles("fill", "fill"), self.with_roles("host", "fill", "fill"),
                          self.with_roles("host", "host", "fill"), self.with_roles("head", "host"),
                          self.with_roles("head", "fill"), self.with_roles("head", "host", "fill"),
                          self.with_roles("host", "fill", "by"), self.with_roles("host", "by")])

    def test_a_host_that_does_not_let_and_a_fill_that_does(self):
        def pair(host_lets, fill_lets, fill_kind):
            parts = [("host", "n", {}, host_lets), ("fill", fill_kind, {}, fill_lets)]
            return {"kind": "s", "parts": parts, "agrees": [], "order": (0, 0, [])}
        self.check_rules([pair(True, False, "n")],
                         [pair(False, False, "n"), pair(True, True, "n"), pair(True, False, "k")])

    def test_groups(self):
        whole = [[(-1, "num"), (0, "num")], [(-1, "gen"), (0, "gen")]]
        self.check_rules([{"agrees": [*whole, group]} for group in (
                              [(2, "num")], [(-1, "num")], [(0, "gen"), (1, "gen"), (2, "num")], [(-1, "num"), (-1, "gen")])],
                         [{"agrees": [*whole, group]} for group in (
                              [], [(3, "num")], [(-2, "num")], [(1, "num")], [(0, "per")], [(2, "gen")], [(-1, "per")],
                              [(0, "num"), (0, "num")], [(0, "num"), (-1, "num"), (0, "num")],
                              [(0, "num"), (1, "num")], [(0, "num"), (3, "num")], [(-2, "num"), (2, "num")])])

    def test_each_feature_of_the_whole_is_told(self):
        num, gen = [(-1, "num"), (0, "num")], [(-1, "gen"), (1, "gen")]
        self.check_rules([{"agrees": [num, gen]}, {"agrees": [num], "bundle": {"gen": ["f"]}},
                          {"agrees": [], "bundle": {"gen": ["f"], "num": ["sg"]}},
                          {"agrees": [[(-1, "num"), (-1, "gen"), (0, "num")]]},
                          {"agrees": [[(-1, "num")], num, gen]}],
                         [{"agrees": [num]}, {"agrees": []}, {"agrees": [num], "bundle": {"gen": ["m", "f"]}},
                          {"agrees": [num, [(-1, "gen")]]}, {"agrees": [num, [(-1, "gen"), (-1, "num")]]},
                          {"agrees": [num, [(0, "gen"), (1, "gen")]]}])

    def test_orders(self):
        self.check_rules([{"order": order} for order in (
                              (0, 0, []), (4, 99, []), (2, 0, [(2, 0), (2, 0)]), (0, 0, [(0, 1), (0, 2)]))],
                         [{"order": order} for order in (
                              (-1, 0, []), (5, 0, []), (0, -1, []), (0, 100, []), (4, 0, [(0, 0)]), (4, 0, [(0, 3)]),
                              (4, 0, [(-1, 0)]), (4, 0, [(0, -1)]), (4, 0, [(3, 1)]), (4, 0, [(0, 1), (0, 3)]))])

    def test_a_rule_whose_parts_can_stand_in_no_order(self):
        self.check_rules([], [{"order": order} for order in (
            (0, 0, [(1, 0)]), (4, 0, [(0, 1), (1, 0)]), (4, 0, [(0, 1), (1, 2), (2, 0)]), (1, 0, [(2, 0)]))])


class TooLong(unittest.TestCase):
    def test_each_list_at_its_bound_and_one_longer(self):
        things = {
            "features": [(name, ["a"], True) for name in names(99)],
            "kinds": [(name, [], False, False) for name in names(99)],
            "seams": [("a", "b", "c")] * 99,
            "stems": [("a", "s", "x", "p", {}, 0)] * 99,
            "endings": [("x", "", {}, 0)] * 99,
            "rules": [(name, 0, "s", {}, [("head", "n", {}, True)], [], (0, 0, [])) for name in names(99)],
        }
        bounds = {"features": 6, "kinds": 12, "seams": 12, "stems": 40, "endings": 40, "rules": 30}
        for name in LISTS:
            free = bounds[name] - len(base()[name])
            self.assertIsNone(why(with_more(name, *things[name][:free])), name)
            for more in (1, 2, 9):
                self.assertEqual(why(with_more(name, *things[name][:free + more])), (WORDS[name], bounds[name]), name)

    def test_one_ahead_of_the_bound_that_is_not_sound(self):
        told = with_more("endings", *[("x", "", {}, 0)] * 50)
        told["endings"][17] = ("x", "", {}, -1)
        self.assertEqual(why(told), ("ending", 17))
        told["endings"][17] = ("x", "", {}, 0)
        self.assertEqual(why(told), ("ending", 40))


def kinds_of(*names_of_kinds):
    """Kinds without features that may be gaps, behind a mute one."""
    return [("m", [], False, True), *[(name, [], True, False) for name in names_of_kinds]]


def leading(name, kind, *parts):
    """A rule of this kind; parts are written as role and kind."""
    told = [(role, goal, {}, role == "host") for role, goal in parts]
    return (name, 0, kind, {}, told, [], (0, 0, []))


def why_rules(*rules):
    return why({"features": [], "kinds": kinds_of("a", "b", "c", "d"), "seams": [], "stems": [], "endings": [],
                "rules": list(rules), "start": "a"})


class StartAndRings(unittest.TestCase):
    def test_start(self):
        for start, want in (("s", None), ("n", None), ("k", None), ("m", ("start", 0)), ("none", ("start", 0)),
                            ("", ("start", 0)), ("num", ("start", 0))):
            self.assertEqual(why({**base(), "start": start}), want, start)

    def test_no_ring(self):
        self.assertIsNone(why_rules())
        self.assertIsNone(why_rules(leading("ra", "a", ("head", "b")), leading("rb", "b", ("head", "c")),
                                    leading("rc", "a", ("head", "c")), leading("rd", "c", ("head", "d"))))

    def test_a_ring_by_one_rule(self):
        self.assertEqual(why_rules(leading("ra", "a", ("head", "a"))), ("ring", 0))
        self.assertEqual(why_rules(leading("ra", "a", ("head", "b")), leading("rb", "b", ("-", "m"), ("head", "b"))),
                         ("ring", 1))

    def test_a_ring_by_a_fill(self):
        self.assertEqual(why_rules(leading("ra", "a", ("host", "b"), ("fill", "a"))), ("ring", 0))
        self.assertEqual(why_rules(leading("ra", "c", ("head", "a")),
                                   leading("rb", "a", ("host", "b"), ("fill", "c"))), ("ring", 0))

    def test_a_host_leads_nowhere(self):
        self.assertIsNone(why_rules(leading("ra", "a", ("host", "a"), ("fill", "b"))))
        self.assertIsNone(why_rules(leading("ra", "a", ("-", "m"), ("host", "a"), ("fill", "b")),
                                    leading("rb", "b", ("host", "a"), ("fill", "c"))))

    def test_a_part_with_a_role_of_its_own_leads_nowhere_nor_does_its_head(self):
        self.assertIsNone(why_rules(leading("ra", "a", ("head", "a"), ("by", "a"))))
        self.assertIsNone(why_rules(leading("ra", "a", ("by", "b"), ("head", "b")), leading("rb", "b", ("head", "a"))))

    def test_a_ring_by_several_rules(self):
        ring = [leading("ra", "a", ("head", "b")), leading("rb", "b", ("head", "c"), ("-", "m")),
                leading("rc", "c", ("fill", "a"), ("host", "d"))]
        for order in itertools.permutations(ring):
            self.assertEqual(why_rules(*order), ("ring", 0))
            self.assertIsNone(why_rules(*order[:2]))

    def test_the_least_number_of_a_rule_by_which_a_kind_is_led_to_itself(self):
        # The first one leads into the ring, the second from it elsewhere: neither is of it.
        self.assertEqual(why_rules(leading("ra", "d", ("head", "a")), leading("rb", "a", ("head", "c")),
                                   leading("rc", "b", ("head", "a")), leading("rd", "a", ("head", "b"))), ("ring", 2))

    def test_the_least_of_two_rings(self):
        self.assertEqual(why_rules(leading("ra", "a", ("head", "b")), leading("rb", "c", ("head", "d")),
                                   leading("rc", "b", ("head", "c")), leading("rd", "d", ("head", "c")),
                                   leading("re", "b", ("head", "b"))), ("ring", 1))

    def test_two_ways_of_one_kind_one_of_them_round(self):
        self.assertEqual(why_rules(leading("ra", "a", ("head", "c")), leading("rb", "a", ("head", "b")),
                                   leading("rc", "b", ("head", "a"))), ("ring", 1))


# For each thing of which a tongue may be refused, in the order told, a change of the base that breaks it.
FAULTS = [
    (("feature", 1), lambda told: told["features"].__setitem__(1, ("gen", ["m", "f", "sg", "m"], False))),
    (("feature", 2), lambda told: told["features"].append(("num", ["sg", "pl"], True))),
    (("kind", 3), lambda told: told["kinds"].__setitem__(3, ("k", ["gen"], True, True))),
    (("kind", 4), lambda told: told["kinds"].append(("a", ["none"], False, False))),
    (("seam", 0), lambda told: told["seams"].__setitem__(0, ("", "", ""))),
    (("seam", 1), lambda told: told["seams"].append(("abcd", "", ""))),
    (("stem", 0), lambda told: told["stems"].__setitem__(0, ("cat", "n", "x", "cat", {"gen": "m"}, 1000))),
    (("stem", 2), lambda told: told["stems"].append(("", "n", "x", "cat", {}, 0))),
    (("ending", 1), lambda told: told["endings"].__setitem__(1, ("y", "", {"num": "f"}, 0))),
    (("ending", 2), lambda told: told["endings"].append(("", "", {}, 0))),
    (("rule", 0), lambda told: told["rules"].__setitem__(0, ("", 4, "s", {}, [("head", "n", {}, True)], [], (0, 0, [])))),
    (("rule", 1), lambda told: told["rules"].append(("top", 0, "s", {}, [("head", "n", {}, True)], [], (0, 0, [])))),
    (("start", 0), lambda told: told.__setitem__("start", "m")),
    (("ring", 1), lambda told: told["rules"].insert(1, ("turn", 0, "s", {}, [("head", "s", {}, True)], [], (0, 0, [])))),
]


class SeveralFaults(unittest.TestCase):
    def test_each_by_itself(self):
        for want, change in FAULTS:
            told = base()
            change(told)
            self.assertEqual(why(told), want)

    def test_of_two_faults_the_first_in_the_order_told(self):
        for (want, change), (later, other) in itertools.combinations(FAULTS[:-2], 2):
            for first, second in ((change, other), (other, change)):
                told = base()
                first(told)
                second(told)
                self.assertEqual(why(told), want, later)

    def test_faults_ahead_of_start_and_of_rings(self):
        for want, change in FAULTS[:-2]:
            told = base()
            change(told)
            FAULTS[-2][1](told)
            self.assertEqual(why(told), want)
            told = base()
            FAULTS[-1][1](told)
            change(told)
            # The ring's rule was put ahead of the second one.
            self.assertEqual(why(told), ("rule", 2) if want == ("rule", 1) else want)
        told = base()
        FAULTS[-1][1](told)
        FAULTS[-2][1](told)
        self.assertEqual(why(told), ("start", 0))

    def test_all_faults_from_each_on(self):
        for at in range(len(FAULTS) - 2):
            told = base()
            for _, change in FAULTS[at:-1]:
                change(told)
            self.assertEqual(why(told), FAULTS[at][0])

    def test_what_leans_on_a_thing_that_is_not_sound(self):
        told = base()
        told["features"][0] = ("num", [], True)
        self.assertEqual(why(told), ("feature", 0))
        told = base()
        told["kinds"][1] = ("nn", ["num", "gen"], True, False)
        self.assertEqual(why(told), ("stem", 0))
        told["stems"] = []
        self.assertEqual(why(told), ("rule", 0))

    def test_the_refusal(self):
        with self.assertRaises(BadTongue) as caught:
            Tongue({**base(), "start": "none"})
        self.assertEqual(caught.exception.why, ("start", 0))
        self.assertIs(type(caught.exception.why), tuple)
        self.assertIsInstance(caught.exception, SpeechError)


def spoil(thing):
    """Changes all lists and dicts within, in all depths."""
    if isinstance(thing, (list, tuple)):
        for inner in list(thing):
            spoil(inner)
    if isinstance(thing, dict):
        for inner in list(thing.values()):
            spoil(inner)
        thing.clear()
        thing["spoilt"] = ["spoilt"]
    if isinstance(thing, list):
        thing.reverse()
        thing.append("spoilt")
        del thing[0]


def held_within(thing):
    """The ids of all lists and dicts within."""
    found = {id(thing)} if isinstance(thing, (list, dict)) else set()
    inner = thing.values() if isinstance(thing, dict) else thing if isinstance(thing, (list, tuple)) else ()
    return found.union(*[held_within(one) for one in inner])


def asked(tongue):
    """What the methods tell, by their names."""
    return {**{name: getattr(tongue, name)() for name in LISTS}, "start": tongue.start()}


class Told(unittest.TestCase):
    def test_the_methods_tell_what_was_handed_in(self):
        told = small()
        tongue = Tongue(told)
        for name in (*LISTS, "start"):
            self.assertEqual(getattr(tongue, name)(), told[name], name)
        self.assertEqual(tongue.told(), told)
        self.assertEqual(sorted(tongue.told()), sorted([*LISTS, "start"]))

    def test_empty_lists(self):
        told = {**{name: [] for name in LISTS}, "kinds": [("s", [], False, False)], "start": "s"}
        self.assertEqual(Tongue(told).told(), told)

    def test_what_is_told_has_the_kinds_of_values_that_were_handed_in(self):
        tongue = Tongue(small())
        self.assertEqual(repr(tongue.told()), repr(small()))

    def test_what_is_handed_in_stays(self):
        told = small()
        tongue = Tongue(told)
        asked(tongue)
        forms(tongue)
        self.assertEqual(repr(told), repr(small()))

    def test_what_is_refused_stays(self):
        for want, change in FAULTS:
            told = base()
            change(told)
            kept = copy.deepcopy(told)
            self.assertEqual(why(told), want)
            self.assertEqual(told, kept)

    def check_same(self, tongue):
        self.assertEqual(asked(tongue), small())
        self.assertEqual(tongue.told(), small())
        fresh = Tongue(small())
        self.assertEqual(forms(tongue), forms(fresh))
        self.assertEqual(analyses(tongue, "saw"), analyses(fresh, "saw"))

    def test_what_was_handed_in_is_changed_behind(self):
        told = small()
        tongue = Tongue(told)
        spoil(told)
        self.check_same(tongue)
        told = small()
        tongue = Tongue(told)
        self.check_same(tongue)
        spoil(told)
        self.check_same(tongue)

    def test_what_was_told_is_changed(self):
        tongue = Tongue(small())
        for name in (*LISTS, "told"):
            spoil(getattr(tongue, name)())
            self.check_same(tongue)

    def test_no_list_or_dict_is_told_twice_or_was_handed_in(self):
        told = small()
        tongue = Tongue(told)
        rows = [told, *[getattr(tongue, name)() for name in (*LISTS, "told")], tongue.told()]
        held = [held_within(row) for row in rows]
        for one, other in itertools.combinations(held, 2):
            self.assertFalse(one & other)

    def test_what_was_told_may_be_handed_in_again(self):
        for told in [small(), base(), *[told for told, _ in tongues(9, 30)]]:
            again = Tongue(Tongue(told).told())
            self.assertEqual(again.told(), told)
            self.assertEqual(asked(again), {name: told[name] for name in (*LISTS, "start")})

    def test_two_tongues_of_one_dict_stand_apart(self):
        told = small()
        one = Tongue(told)
        told["start"] = "vp"
        told["stems"].clear()
        other = Tongue(told)
        self.assertEqual((one.start(), other.start()), ("s", "vp"))
        self.assertEqual((len(forms(one)), forms(other)), (17, []))

    def test_the_methods_are_defined_in_the_class_and_the_class_in_its_file(self):
        self.assertEqual(tongues_file.Tongue.__module__, "speechloom.tongues")
        for name in (*LISTS, "start", "told"):
            self.assertIn(name, vars(Tongue))


if __name__ == "__main__":
    unittest.main()
