"""[21]: desk_told."""

import unittest

from helper import one_rule, pairing, small, stem, tongues
from speechloom import desk as desk_file
from speechloom.coming import coming, fewest_more
from speechloom.desk import desk_told
from speechloom.errors import BadRow, SpeechError
from speechloom.looks import idle_endings, idle_stems, never_rules
from speechloom.measures import two_meanings, two_sayings
from speechloom.meanings import nodes_of
from speechloom.reading import count_readings, meanings_for, readings
from speechloom.saying import best_saying, sayings
from speechloom.tongues import Tongue
from speechloom.trees import cost_of
from speechloom.turning import turned
from speechloom.words import forms
from speechloom.written import tongue_text

CATS_SEE_A_DOG = "( see num=pl tense=now by ( cat num=pl ) to ( dog num=sg ) )"


def block(name, told):
    """The rows of a tongue at a desk."""
    return [f"tongue {name}", *tongue_text(Tongue(told)).split("\n"), "end"]


SMALL = block("x", small())
LEAST = block("x", {"features": [], "kinds": [("s", [], False, False)], "seams": [], "stems": [], "endings": [], "rules": [],
                    "start": "s"})


def free():
    """p and q in free order: two meanings of each row of two words, two sayings of p."""
    return pairing([stem("a", "n", "p"), stem("b", "n", "q", 1), stem("c", "n", "p", 2)], 3, (1, 2, []))


def told(*rows):
    return desk_told("\n".join(rows))


def row_of(*rows):
    """The field of the refusal, or None where there is none."""
    try:
        told(*rows)
    except BadRow as bad:
        return bad.row
    return None


class Answers(unittest.TestCase):
    def ask(self, ask, want, rows=None):
        self.assertEqual(told(*(rows or SMALL), ask), [want], ask)

    def test_read(self):
        self.ask("read x the cats see a dog", "36 [ clause [ noun the cats ] [ verb see [ noun a dog ] ] ]")
        self.ask("read x a dog the cats see", "43 [ front [ noun a dog ] [ clause [ noun the cats ] [ verb see _ ] ] ]")
        self.ask("read x the cats sees a dog", "-")
        self.ask("read x a", "0 a", block("x", free()))
        # By their places: the head stands behind.
        self.ask("read x a b", "4 [ r a b ] ; 8 [ r a b ]", block("x", free()))
        self.ask("read x the cats now see i", "49 [ clause [ noun the cats ] [ when now [ verb see i ] ] ]")

    def test_means(self):
        self.ask("means x the cats see a dog", CATS_SEE_A_DOG)
        self.ask("means x zzz", "-")
        self.ask("means x b", "( q )", block("x", free()))
        self.ask("means x a b", "( p by ( q ) ) ; ( q by ( p ) )", block("x", free()))

    def test_count(self):
        self.ask("count x the cats see a dog", "1")
        self.ask("count x zzz", "0")
        self.ask("count x a b", "2", block("x", free()))
        self.ask("count x" + " a" * 14, str(742900 * 2 ** 13), block("x", free()))

    def test_say(self):
        self.ask(f"say x {CATS_SEE_A_DOG}", "36 the cats see a dog ; 36 the cats see the dog ; 43 a dog the cats see ; "
                 "43 the dog the cats see")
        self.ask("say x ( see )", "-")
        self.ask("say x ( q )", "1 b", block("x", free()))
        self.ask("say x ( p )", "0 a ; 2 c", block("x", free()))

    def test_best(self):
        self.ask(f"best x {CATS_SEE_A_DOG}", "the cats see a dog")
        self.ask("best x ( see )", "-")
        self.ask("best x ( q )", "b", block("x", free()))

    def test_next(self):
        self.ask("next x", "a i the")
        self.ask("next x i see", "a i the")
        self.ask("next x the cats see a dog", "now .")
        self.ask("next x zzz", "-")
        self.ask("next x", "-", LEAST)
        rows = block("x", {**small(), "start": "adv"})
        self.ask("next x", "now", rows)
        self.ask("next x now", ".", rows)

    def test_more(self):
        self.ask("more x", "3")
        self.ask("more x the", "3")
        self.ask("more x the cats see a dog", "0")
        self.ask("more x zzz", "-")
        self.ask("more x", "-", LEAST)

    def test_turn(self):
        self.ask("turn x x a dog i see", "i see a dog ; i see the dog ; a dog i see ; the dog i see")
        self.ask("turn x x zzz", "-")
        rows = [*block("x", free()), *block("y", pairing([stem("k", "n", "p"), stem("l", "n", "q")], 0, (1, 0, [])))]
        self.ask("turn x y b", "l", rows)
        # Alike ones stand there for each meaning.
        self.ask("turn x y a b", "k l ; l k ; k l ; l k", rows)
        rows = [*block("x", free()), *block("y", pairing([stem("k", "n", "p")], 0, (1, 0, [])))]
        self.ask("turn x y b", "-", rows)
        self.ask("turn x y a c", "k k", rows)

    def test_never(self):
        self.ask("never x", "-")
        self.ask("never x", "-", LEAST)
        self.ask("never x", "clause verb front when", block("x", {**small(), "start": "np"}))

    def test_idle(self):
        self.ask("idle x", "/")
        self.ask("idle x", "/", LEAST)
        self.ask("idle x", "6 7 8 / 5 6 7 8 9 10", block("x", {**small(), "start": "np"}))
        self.ask("idle x", "0 1 2 3 4 5 6 7 8 /", block("x", {**small(), "endings": []}))
        self.ask("idle x", "/ 0 1 2 3 4 5 6 7 8 9 10", block("x", {**small(), "stems": []}))

    def test_twice(self):
        self.ask("twice x 4", "-")
        self.ask("twice x 0", "-", block("x", free()))
        self.ask("twice x 1", "-", block("x", free()))
        self.ask("twice x 3", "a b", block("x", free()))
        self.ask("twice x 8", "-", LEAST)

    def test_alike(self):
        self.ask("alike x 2", "-")
        self.ask("alike x 1", "( p )", block("x", free()))
        self.ask("alike x 3", "( see num=pl tense=now by ( cat num=pl ) to ( cat num=sg ) )")
        self.ask("alike x 6", "-", LEAST)

    def test_several_asks_in_their_order(self):
        self.assertEqual(told(*SMALL, "count x zzz", "next x", "count x i see i", "next x"), ["0", "a i the", "1", "a i the"])

    def test_no_asks(self):
        self.assertEqual(desk_told(""), [])
        self.assertEqual(told(*SMALL), [])

    def test_several_tongues_with_asks_between(self):
        got = told(*block("x", free()), "best x ( p )", *block("small", small()), "best small ( p )", "best x ( q )",
                   *block("abcdefgh", {**small(), "start": "adv"}), "next abcdefgh", "next x", "turn x abcdefgh a")
        self.assertEqual(got, ["a", "-", "b", "now", "a b c", "-"])

    def test_names_of_tongues_that_are_first_words(self):
        rows = [*block("tongue", free()), *block("end", free()), *block("read", small())]
        self.assertEqual(told(*rows, "best tongue ( p )", "best end ( q )", "count read i see i"), ["a", "b", "1"])


class Meanings(unittest.TestCase):
    TONGUE = block("x", small())

    def check(self, good, *texts):
        for text in texts:
            want = None if good else len(self.TONGUE)
            for ask in ("say", "best"):
                self.assertEqual(row_of(*self.TONGUE, f"{ask} x {text}"), want, text)

    def test_marks_and_pairs(self):
        self.check(True, "( a )", "( a b=c )", "( a b=c d=e )", "( a b ( c ) )", "( a b=c d ( e f=g ) h ( i j ( k ) ) )",
                   "( abcdefgh abcdefgh=abcdefgh abcdefgh ( abcdefgh ) )", CATS_SEE_A_DOG, "( a head ( b ) )")

    def test_marks_that_do_not_rise(self):
        self.check(False, "( a c=d b=e )", "( a b=c b=c )", "( a b=c b=d )", "( a b=d b=c )", "( a r ( b d=e c=f ) )",
                   "( a b=x c=y b=z )")

    def test_pairs_that_do_not_rise(self):
        self.check(False, "( a s ( b ) r ( b ) )", "( a r ( c ) r ( b ) )", "( a r ( b c=d ) r ( b ) )",
                   "( a r ( b c=e ) r ( b c=d ) )", "( a r ( b s ( d ) ) r ( b s ( c ) ) )", "( a q ( b s ( d ) r ( c ) ) )",
                   "( a r ( b ) r ( c ) r ( b ) )")

    def test_pairs_that_stand_twice(self):
        self.check(True, "( a r ( b ) r ( b ) )", "( a r ( b ) r ( b ) r ( c ) s ( a ) )", "( a r ( b c=d ) r ( b c=d s ( e ) ) )")

    def test_not_so_written(self):
        self.check(False, "", "a", "(", ")", "( )", "( a", "a )", "( a ) )", "( ( a )", "( a ) b", "( a ) ( b )", "( a b )",
                   "( a b ( ) )", "( a b ( c )", "( a b c )", "( a b b ( c ) )", "( a ( b ) )", "( a b ( c ) d=e )", "( a b= )",
                   "( a =b )", "( a b=c=d )", "( a b=c|d )", "( A )", "( a B=c )", "( a b=C )", "( a R ( b ) )", "(a )", "( a)",
                   "( a r (b) )", "( - )", "( _ )", "( a  b=c )", " ( a )", "( a ) ", "( a - ( b ) )", "[ a ]", "( a=b )",
                   "( a r=b ( c ) )", "( a 1=b )", "( a ) ;")

    def test_names_that_are_too_long(self):
        self.check(False, "( abcdefghi )", "( a abcdefghi=b )", "( a b=abcdefghi )", "( a abcdefghi ( b ) )",
                   "( a b ( abcdefghi ) )")

    def test_deep_and_wide_ones(self):
        deep = "( a " + "r ( a " * 23 + ") " * 23 + ")"
        self.check(True, deep, "( a" + " r ( b )" * 23 + " )")
        self.check(False, deep[:-2], deep + " )")


class Rows(unittest.TestCase):
    """What is refused, and of which row."""

    def bad(self, *asks):
        for ask in asks:
            self.assertEqual(row_of(*SMALL, "next x", ask, "next x"), len(SMALL) + 1, ask)

    def good(self, *asks):
        for ask in asks:
            self.assertIsNone(row_of(*SMALL, ask), ask)

    def test_it_is_refused_with_a_field(self):
        with self.assertRaises(BadRow) as caught:
            desk_told("hello")
        self.assertEqual(caught.exception.row, 0)
        self.assertIsInstance(caught.exception, SpeechError)

    def test_words(self):
        for ask in ("read x", "means x", "count x", "next x", "more x", "turn x x"):
            self.good(ask + " zzz", ask + " a" * 14, ask + " " + "a" * 30)
            self.bad(ask + " a" * 15, ask + " A", ask + " a-b", ask + " a1", ask + " .", ask + " ", ask + "  a", ask + " a ",
                     ask + " a  b", " " + ask + " a", ask + " a\t", ask + " \u00e9", ask + " -", ask.replace("x", "y") + " a")

    def test_no_words(self):
        self.good("next x", "more x")
        self.bad("read x", "means x", "count x", "turn x x", "turn x", "turn", "read", "next", "more", "means", "count")

    def test_asks_of_nothing_more(self):
        for ask in ("never", "idle"):
            self.good(f"{ask} x")
            self.bad(ask, f"{ask} y", f"{ask} x x", f"{ask} x ", f"{ask}  x", f"{ask} x 3")

    def test_numbers_and_their_bounds(self):
        for ask, least, most in (("twice", 0, 8), ("alike", 1, 6)):
            for number in range(least, most + 1):
                self.assertIsNone(row_of(*LEAST, f"{ask} x {number}"))
            self.bad(ask, f"{ask} x", f"{ask} x ", f"{ask} x -1", f"{ask} x 01", f"{ask} x 00", f"{ask} x x", f"{ask} x 1 1",
                     f"{ask} x {most + 1}", f"{ask} x 10", f"{ask} x 1.0", f"{ask} x +1", f"{ask} x \u0661", f"{ask} 1",
                     f"{ask} x 1000000000", f"{ask} y 1")
        self.bad("alike x 0")

    def test_first_words(self):
        self.bad("reads x a", "Read x a", "x a", "end", "tongue", "start s", "kind s plain", "sayx ( a )", "say", "say x", "best x",
                 "say ( a )", "say y ( a )", "best y ( a )", "", " ", "-", "next:x")

    def test_tongues_that_are_not_there(self):
        self.bad("turn x y a", "turn y x a", "turn y y a", "read xx a")
        self.assertEqual(row_of("next x", *SMALL), 0)
        self.assertEqual(row_of(*SMALL, "next y", *block("y", free())), len(SMALL))

    def test_names_of_tongues(self):
        for name in ("abcdefghi", "A", "a1", "-", "a-b", "", "x y", " x", "x "):
            self.assertEqual(row_of(f"tongue {name}", *LEAST[1:]), 0, name)
        self.assertEqual(row_of("tongue", *LEAST[1:]), 0)
        self.assertIsNone(row_of("tongue abcdefgh", *LEAST[1:]))

    def test_a_name_twice(self):
        self.assertEqual(row_of(*LEAST, *LEAST), len(LEAST))
        self.assertEqual(row_of(*LEAST, "never x", *SMALL), len(LEAST) + 1)
        self.assertIsNone(row_of(*LEAST, *block("y", small())))

    def test_empty_rows(self):
        self.assertEqual(row_of(*LEAST, ""), len(LEAST))
        self.assertEqual(row_of("", *LEAST), 0)
        self.assertEqual(row_of(*LEAST, "", "never x"), len(LEAST))
        self.assertEqual(row_of("", ""), 0)
        self.assertEqual(row_of(*LEAST[:2], "", *LEAST[2:]), 2)

    def test_other_line_ends(self):
        with self.assertRaises(BadRow) as caught:
            desk_told("\r\n".join(LEAST))
        self.assertEqual(caught.exception.row, 0)


class Blocks(unittest.TestCase):
    """The rows of a tongue at a desk."""

    def test_rows_that_are_not_so_written(self):
        for at in range(1, len(SMALL) - 1):
            rows = SMALL[:]
            rows[at] += " ="
            self.assertEqual(row_of(*rows, "next x"), at)
            self.assertEqual(row_of(*LEAST, *block("y", small())[:1], *rows[1:]), len(LEAST) + at)

    def test_what_is_not_sound_once_the_end_has_come(self):
        rows = SMALL[:]
        at = rows.index("stem cat n noun cat 1")
        rows[at] = "stem cat n noun cat 1000"
        self.assertEqual(row_of(*rows), at)
        # Ahead of its end all that isn't so written goes first, behind it nothing does.
        self.assertEqual(row_of(*rows[:-2], "start S", "end"), len(rows) - 2)
        self.assertEqual(row_of(*rows[:-1]), len(rows) - 1)
        self.assertEqual(row_of(*rows[:-1], "ends"), len(rows) - 1)
        self.assertEqual(row_of(*rows, "hello"), at)
        self.assertEqual(row_of("hello", *rows), 0)
        self.assertEqual(row_of(*LEAST, "never x", "tongue y", *rows[1:], "hello"), len(LEAST) + 1 + at)

    def test_what_is_not_sound_of_rules_and_start(self):
        rows = SMALL[:]
        at = rows.index("agree 0.num 1.num")
        rows[at] = "agree"
        self.assertEqual(row_of(*rows), rows.index("rule clause 20 s 0 0"))
        rows = SMALL[:-2] + ["start zzz", "end"]
        self.assertEqual(row_of(*rows), len(rows) - 2)
        ring = ["rule ring 0 vp 0 0", "part head vp lets", "agree whole.num 0.num", "agree whole.per 0.per",
                "agree whole.tense 0.tense"]
        self.assertEqual(row_of(*SMALL[:-2], *ring, *SMALL[-2:]), len(SMALL) - 2)

    def test_end_missing(self):
        self.assertEqual(row_of(*SMALL[:-1]), len(SMALL) - 1)
        self.assertEqual(row_of(*SMALL[:-2]), len(SMALL) - 2)
        self.assertEqual(row_of("tongue x"), 1)
        self.assertEqual(row_of("tongue x", "start s"), 2)
        self.assertEqual(row_of(*LEAST, *block("y", free())[:4]), len(LEAST) + 4)

    def test_end_ahead_of_start(self):
        self.assertEqual(row_of("tongue x", "end"), 1)
        self.assertEqual(row_of("tongue x", "kind s plain", "end", "start s", "end"), 2)
        for at in range(1, len(SMALL) - 1):
            self.assertEqual(row_of(*SMALL[:at], "end"), at)

    def test_a_row_behind_start(self):
        for row in ("next x", "start s", "kind k plain", "tongue y", "", "end ", " end", "end x"):
            self.assertEqual(row_of(*LEAST[:-1], row, "end"), len(LEAST) - 1, row)

    def test_asks_and_tongues_within(self):
        self.assertEqual(row_of(*LEAST, "tongue y", "never x", "start s", "end"), len(LEAST) + 1)
        self.assertEqual(row_of("tongue x", "tongue y", *LEAST[1:]), 1)

    def test_end_twice(self):
        self.assertEqual(row_of(*LEAST, "end"), len(LEAST))


class Order(unittest.TestCase):
    def test_refused_ahead_of_all_answers(self):
        # The first ask would take far too long to be answered.
        many = "read x" + " a" * 14
        self.assertEqual(row_of(*block("x", free()), many, many, "hello"), len(block("x", free())) + 2)

    def test_the_first_row_at_fault(self):
        self.assertEqual(row_of(*LEAST, "next y", "hello", ""), len(LEAST))
        self.assertEqual(row_of(*LEAST, "alike x 0", "next y"), len(LEAST))
        self.assertEqual(row_of(*LEAST, "say x ( a", "tongue y"), len(LEAST))

    def test_defined_in_its_file(self):
        self.assertEqual(desk_file.desk_told.__module__, "speechloom.desk")


def meaning_written(meaning):
    atom, marks, pairs = meaning
    words = [f"{name}={value}" for name, value in marks] + [f"{role} {meaning_written(inner)}" for role, inner in pairs]
    return " ".join(["(", atom, *words, ")"])


def tree_written(told, tree):
    if tree[0] == "gap":
        return "_"
    if tree[0] == "word":
        text = [text for text, one, other in forms(Tongue(told)) if (one, other) == tree[1:]]
        return text[0]
    inner = sorted(zip(tree[2], tree[3]), key=lambda pair: pair[0])
    return " ".join(["[", told["rules"][tree[1]][0], *[tree_written(told, below) for _, below in inner], "]"])


def several(texts):
    return " ; ".join(texts) or "-"


class Whole(unittest.TestCase):
    """What a desk tells beside what the functions tell."""

    def test_as_the_functions_tell(self):
        answers = set()
        found = tongues(21, 40)
        for (told_one, one), (told_other, other) in zip(found, found[1:] + found[:1]):
            asks, wants = [], []
            texts = sorted({row[0] for row in forms(one)}) + ["z"]
            rows = [[text] for text in texts] + [[text, more] for text in texts for more in texts]
            for words in rows:
                if count_readings(one, words) <= 50:
                    self.add_of_words(asks, wants, told_one, (one, other), words)
            for ask, want in self.of_tongues(one, told_one):
                asks.append(ask)
                wants.append(want)
            got = told(*block("one", told_one), *block("other", told_other), *asks)
            self.assertEqual(list(zip(asks, got)), list(zip(asks, wants)))
            answers.update(want for ask, want in zip(asks, wants))
        self.assertGreater(len(answers), 100)

    def add_of_words(self, asks, wants, told_one, both, words):
        one, other = both
        text = " ".join(words)
        trees = readings(one, words)
        meanings = meanings_for(one, words)
        nexts, is_whole = coming(one, words)
        fewest = fewest_more(one, words)
        rows = [(f"read one {text}", several([f"{cost_of(one, tree)} {tree_written(told_one, tree)}" for tree in trees])),
                (f"means one {text}", several([meaning_written(meaning) for meaning in meanings])),
                (f"count one {text}", str(len(trees))),
                (f"next one {text}", " ".join(nexts + ["."] * is_whole) or "-"),
                (f"more one {text}", "-" if fewest is None else str(fewest[0]))]
        if all(nodes_of(meaning) <= 3 for meaning in meanings):
            said = [row for _, rows in turned(one, other, words) for _, row in rows]
            rows.append((f"turn one other {text}", several([" ".join(row) for row in said])))
            for meaning in meanings:
                written = meaning_written(meaning)
                said = sayings(other, meaning)
                rows.append((f"say other {written}", several([" ".join([str(cost), *row]) for cost, row in said])))
                rows.append((f"best other {written}", " ".join(best_saying(other, meaning) or ["-"])))
        for ask, want in rows:
            asks.append(ask)
            wants.append(want)

    def of_tongues(self, one, told_one):
        names = [told_one["rules"][number][0] for number in never_rules(one)]
        yield "never one", " ".join(names) or "-"
        yield "idle one", " ".join([*map(str, idle_stems(one)), "/", *map(str, idle_endings(one))])
        for most in (0, 1, 2):
            found = two_meanings(one, most)
            yield f"twice one {most}", " ".join(found[0]) if found else "-"
        for most in (1, 2):
            found = two_sayings(one, most)
            yield f"alike one {most}", meaning_written(found[0]) if found else "-"
        yield "next one", " ".join(coming(one, [])[0]) or "-"


if __name__ == "__main__":
    unittest.main()
