"""[1], [2], [3] and the interface, over the whole program."""

import ast
import copy
import importlib
import inspect
import itertools
import pathlib
import unittest

from helper import pairing, small, stem, tongues
from speechloom import errors
from speechloom.coming import begins, coming, fewest_more, shows_coming
from speechloom.desk import desk_told
from speechloom.growing import instances, sayable
from speechloom.looks import idle_endings, idle_stems, never_paper, never_rules, served, shows_never
from speechloom.meanings import nodes_of
from speechloom.measures import meanings_upto, rows_upto, two_meanings, two_sayings
from speechloom.reading import best_reading, count_readings, meanings_for, readings, shows_reading
from speechloom.saying import best_saying, best_way, count_ways, sayings, shows_saying, ways
from speechloom.sheet import tongue_from
from speechloom.tongues import Tongue
from speechloom.trees import is_sentence, meaning_of, words_of
from speechloom.turning import best_turned, shows_turned, turned
from speechloom.words import analyses, forms
from speechloom.written import tongue_text

PACKAGE = pathlib.Path(__file__).resolve().parent.parent / "speechloom"

# The names of the interface, by their files, with how many arguments they take.
INTERFACE = {
    "bundles": {"joined": 2, "clash": 2, "joined_all": 1, "lets": 2, "lies_in": 2, "choices": 3, "agreed": 2},
    "seams": {"sewn": 3},
    "words": {"values_of": 3, "forms": 1, "analyses": 2},
    "places": {"places_of": 1, "stir_of": 2},
    "meanings": {"nodes_of": 1, "has_hole": 1, "with_pair": 3, "filled": 2},
    "trees": {"symbol_of": 2, "words_of": 2, "meaning_of": 2, "cost_of": 2, "is_sentence": 2},
    "growing": {"sayable": 1, "instances": 1},
    "reading": {"readings": 2, "readings_as": 3, "count_readings": 2, "best_reading": 2, "meanings_for": 2, "shows_reading": 3},
    "saying": {"ways": 2, "ways_as": 3, "count_ways": 2, "best_way": 2, "sayings": 2, "best_saying": 2, "shows_saying": 3},
    "coming": {"begins": 2, "coming": 2, "fewest_more": 2, "shows_coming": 4},
    "turning": {"turned": 3, "best_turned": 3, "shows_turned": 6},
    "looks": {"served": 2, "never_rules": 1, "idle_stems": 1, "idle_endings": 1, "never_paper": 2, "shows_never": 4},
    "measures": {"rows_upto": 2, "meanings_upto": 2, "two_meanings": 2, "two_sayings": 2},
    "written": {"tongue_text": 1},
    "sheet": {"tongue_from": 1},
    "desk": {"desk_told": 1},
}
METHODS = ("features", "kinds", "seams", "stems", "endings", "rules", "start", "told")


class Interface(unittest.TestCase):
    def test_each_function_is_defined_in_its_file(self):
        for name, functions in INTERFACE.items():
            tree = ast.parse((PACKAGE / f"{name}.py").read_text())
            defined = {node.name for node in tree.body if isinstance(node, ast.FunctionDef)}
            module = importlib.import_module(f"speechloom.{name}")
            for function, many in functions.items():
                self.assertIn(function, defined)
                self.assertEqual(len(inspect.signature(getattr(module, function)).parameters), many, function)

    def test_each_method_is_defined_in_its_class(self):
        for method in METHODS:
            self.assertIn(method, vars(Tongue))

    def test_the_refusals(self):
        for name, field in (("BadTongue", "why"), ("BadTree", "path"), ("BadRow", "row")):
            kind = getattr(errors, name)
            self.assertEqual(kind.__bases__, (errors.SpeechError,))
            self.assertEqual(getattr(kind((1, 2)), field), (1, 2))
        self.assertEqual(errors.SpeechError.__bases__, (ValueError,))


def all_answers(tongue, rows, meanings):
    """What all functions tell of a tongue, some rows of words and some meanings."""
    told = [forms(tongue), sayable(tongue), instances(tongue), never_rules(tongue), idle_stems(tongue), idle_endings(tongue),
            [never_paper(tongue, rule) for rule in range(len(tongue.rules()))],
            [served(tongue, rule) is None for rule in range(len(tongue.rules()))],
            rows_upto(tongue, 2), meanings_upto(tongue, 2), two_meanings(tongue, 2), two_sayings(tongue, 2), tongue_text(tongue)]
    for words in rows:
        told.append([analyses(tongue, word) for word in words])
        told += [ask(tongue, words) for ask in (readings, count_readings, best_reading, meanings_for, begins, coming)]
        told.append((fewest_more(tongue, words) or [None])[0])
    for meaning in meanings:
        told += [ask(tongue, meaning) for ask in (ways, count_ways, best_way, sayings, best_saying)]
    return told


def rows_and_meanings(tongue):
    """Rows of words, and meanings of theirs that aren't too large."""
    texts = sorted({row[0] for row in forms(tongue)})
    rows = [list(words) for many in (0, 1, 2) for words in itertools.product(texts, repeat=many)]
    meanings = sorted({meaning for words in rows for meaning in meanings_for(tongue, words) if nodes_of(meaning) <= 3})
    return rows, meanings


class Same(unittest.TestCase):
    def test_a_tongue_read_from_its_text_answers_as_the_one_that_was_written(self):
        for told, tongue in [(small(), Tongue(small())), *tongues(31, 15)]:
            rows, meanings = rows_and_meanings(tongue)
            want = all_answers(tongue, rows, meanings)
            self.assertEqual(all_answers(tongue_from(tongue_text(tongue)), rows, meanings), want)
            # The same question is told the same, whatever was asked ahead of it.
            self.assertEqual(all_answers(tongue, rows, meanings), want)

    def test_nothing_that_is_handed_in_is_changed_or_kept(self):
        for told, _ in tongues(32, 10):
            kept = copy.deepcopy(told)
            tongue = Tongue(told)
            rows, meanings = rows_and_meanings(tongue)
            want = all_answers(tongue, rows, meanings)
            self.assertEqual(told, kept)
            for name in ("features", "kinds", "seams", "stems", "endings", "rules"):
                told[name].clear()
            self.assertEqual(rows, rows_and_meanings(tongue)[0])
            self.assertEqual(all_answers(tongue, rows, meanings), want)

    def test_what_is_told_is_the_askers_own(self):
        def spoiled(thing):
            if isinstance(thing, list):
                for inner in thing:
                    spoiled(inner)
                thing.append("spoiled")
            elif isinstance(thing, dict):
                for inner in thing.values():
                    spoiled(inner)
                thing["spoiled"] = "spoiled"
            elif isinstance(thing, tuple):
                for inner in thing:
                    spoiled(inner)
        for _, tongue in tongues(33, 8):
            rows, meanings = rows_and_meanings(tongue)
            want = copy.deepcopy(all_answers(tongue, rows, meanings))
            spoiled(all_answers(tongue, rows, meanings))
            spoiled([tongue.told(), tongue.rules(), tongue.features(), tongue.kinds(), tongue.stems(), tongue.endings()])
            self.assertEqual(all_answers(tongue, rows, meanings), want)


class BothWays(unittest.TestCase):
    def test_what_is_read_is_said_and_what_is_said_is_read(self):
        read = said = 0
        for _, tongue in tongues(34, 60):
            rows, meanings = rows_and_meanings(tongue)
            for words in rows:
                for tree in readings(tongue, words):
                    self.assertIs(shows_reading(tongue, words, tree), True)
                    meaning = meaning_of(tongue, tree)
                    self.assertIs(shows_saying(tongue, words, meaning), True)
                    if meaning in meanings and count_ways(tongue, meaning) <= 300:
                        self.assertIn(tree, ways(tongue, meaning))
                        self.assertIn(tuple(words), [row for _, row in sayings(tongue, meaning)])
                        read += 1
            for meaning in meanings:
                for cost, row in sayings(tongue, meaning)[:20]:
                    self.assertIn(meaning, meanings_for(tongue, row))
                    said += 1
                for tree in ways(tongue, meaning)[:20]:
                    self.assertIs(is_sentence(tongue, tree), True)
                    self.assertIn(tree, readings(tongue, words_of(tongue, tree)))
        self.assertGreater(read, 200)
        self.assertGreater(said, 100)

    def test_what_may_come_is_what_some_sentence_has_there(self):
        for _, tongue in tongues(35, 30):
            for row in rows_upto(tongue, 3)[:40]:
                for many in range(len(row)):
                    self.assertIn(row[many], coming(tongue, row[:many])[0])
                    self.assertIs(begins(tongue, list(row[:many])), True)
                    self.assertLessEqual(fewest_more(tongue, row[:many])[0], len(row) - many)
                    self.assertIs(shows_coming(tongue, row[:many], row[many], best_reading(tongue, row)), True)
                self.assertEqual((coming(tongue, row)[1], fewest_more(tongue, row)), (True, (0, [])))

    def test_what_is_measured_is_read_and_said(self):
        for _, tongue in tongues(36, 40):
            rows, meanings = rows_upto(tongue, 2), meanings_upto(tongue, 2)
            for row in rows[:60]:
                self.assertGreater(count_readings(tongue, row), 0)
            for meaning in meanings[:60]:
                self.assertGreater(count_ways(tongue, meaning), 0)
                self.assertLessEqual(nodes_of(meaning), 2)
            for meaning in [meaning for row in rows[:60] for meaning in meanings_for(tongue, row)]:
                if nodes_of(meaning) <= 2:
                    self.assertIn(meaning, meanings)

    def test_a_turned_text_keeps_its_meaning(self):
        for _, tongue in tongues(37, 20):
            twin = tongue_from(tongue_text(tongue))
            for row in rows_upto(tongue, 2)[:10]:
                if all(nodes_of(meaning) <= 3 for meaning in meanings_for(tongue, row)):
                    tree, other = best_reading(tongue, row), best_turned(tongue, twin, row)
                    back = [found for found in readings(twin, other) if meaning_of(twin, found) == meaning_of(tongue, tree)]
                    self.assertTrue(back)
                    self.assertIs(shows_turned(tongue, twin, row, other, tree, back[0]), True)
                    self.assertEqual([meaning for meaning, _ in turned(tongue, twin, row)], meanings_for(tongue, row))

    def test_a_rule_told_as_never_serving_serves_in_no_sentence(self):
        for _, tongue in tongues(38, 30):
            never = never_rules(tongue)
            for row in rows_upto(tongue, 3)[:30]:
                for tree in readings(tongue, row)[:20]:
                    self.assertFalse({node[1] for node in nodes_in(tree) if node[0] == "rule"} & set(never))
            for rule in never:
                self.assertIs(shows_never(tongue, rule, *never_paper(tongue, rule)), True)


def nodes_in(tree):
    yield tree
    for inner in tree[3] if tree[0] == "rule" else ():
        yield from nodes_in(inner)


class Bounds(unittest.TestCase):
    def test_counts_of_any_size_and_the_best_of_them(self):
        tongue = Tongue(pairing([stem("a", "n", "p", rank) for rank in range(40)], 1, (1, 0, [])))
        words = ["a"] * 14
        count = count_readings(tongue, words)
        self.assertEqual(count, 742900 * 2 ** 13 * 40 ** 14)
        self.assertIs(shows_reading(tongue, words, best_reading(tongue, words)), True)
        meaning = ("p", (), tuple([("by", ("p", (), ()))] * 23))
        self.assertEqual(count_ways(tongue, meaning), 40 ** 24 * 2 ** 23)
        self.assertLess(count_ways(tongue, meaning), 10 ** 60)
        self.assertEqual(meaning_of(tongue, best_way(tongue, meaning)), meaning)

    def test_a_desk_with_counts_of_any_size(self):
        text = tongue_text(Tongue(pairing([stem("a", "n", "p", rank) for rank in range(40)], 1, (1, 0, []))))
        self.assertEqual(desk_told(f"tongue t\n{text}\nend\ncount t{' a' * 14}"), [str(742900 * 2 ** 13 * 40 ** 14)])


if __name__ == "__main__":
    unittest.main()
