"""[20]: tongue_text, tongue_from; [9] as far as it is named there."""

import unittest

from helper import one_rule, small, stem, tongues
from speechloom import sheet as sheet_file
from speechloom import written as written_file
from speechloom.errors import BadRow, SpeechError
from speechloom.reading import readings
from speechloom.sheet import tongue_from
from speechloom.tongues import Tongue
from speechloom.words import forms
from speechloom.written import tongue_text

TEXT = """\
feature num ! sg pl
feature gen : m f
kind s plain
kind n gap num gen
kind m mute num
seam y s ies
seam e - -
stem cat n noun cat 3 gen=m num=sg
stem the m bare - 0
stem dog n noun dog 999
ending noun s 1 num=pl
ending noun - 0 gen=f num=sg
ending bare - 0
rule top 4 s 0 0
part head n lets
rule more 0 n 1 99 gen=m num=sg|pl
part head n lets num=pl
part by n shut gen=m|f num=sg
part - m shut
agree whole.num 0.num 2.num
agree 0.gen whole.gen
ahead 0 1
ahead 0 2
start s"""

TOLD = {
    "features": [("num", ["sg", "pl"], True), ("gen", ["m", "f"], False)],
    "kinds": [("s", [], False, False), ("n", ["num", "gen"], True, False), ("m", ["num"], False, True)],
    "seams": [("y", "s", "ies"), ("e", "", "")],
    "stems": [("cat", "n", "noun", "cat", {"num": "sg", "gen": "m"}, 3), ("the", "m", "bare", "", {}, 0),
              ("dog", "n", "noun", "dog", {}, 999)],
    "endings": [("noun", "s", {"num": "pl"}, 1), ("noun", "", {"num": "sg", "gen": "f"}, 0), ("bare", "", {}, 0)],
    "rules": [
        ("top", 4, "s", {}, [("head", "n", {}, True)], [], (0, 0, [])),
        ("more", 0, "n", {"num": ["sg", "pl"], "gen": ["m"]},
         [("head", "n", {"num": ["pl"]}, True), ("by", "n", {"num": ["sg"], "gen": ["m", "f"]}, False), ("-", "m", {}, False)],
         [[(-1, "num"), (0, "num"), (2, "num")], [(0, "gen"), (-1, "gen")]], (1, 99, [(0, 1), (0, 2)])),
    ],
    "start": "s",
}
ROWS = TEXT.split("\n")
# The numbers of the rows of TEXT by how they begin.
FEATURE, KIND, SEAM, STEM, ENDING, RULE, START = 0, 2, 5, 7, 10, 13, 23
MORE, PART, AGREE, AHEAD = 15, 16, 19, 21


def row_of(text):
    """The field of the refusal, or None where there is none."""
    try:
        tongue_from(text)
    except BadRow as bad:
        return bad.row
    return None


def with_row(number, *rows):
    """TEXT with other rows, or none, in the place of one."""
    return "\n".join([*ROWS[:number], *rows, *ROWS[number + 1:]])


def ahead_of(number, *rows):
    """TEXT with more rows ahead of one."""
    return "\n".join([*ROWS[:number], *rows, *ROWS[number:]])


class Written(unittest.TestCase):
    def test_each_kind_of_thing(self):
        self.assertEqual(tongue_text(Tongue(TOLD)), TEXT)

    def test_marks_and_bundles_in_any_order_told(self):
        told = Tongue(TOLD).told()
        told["stems"][0] = (*told["stems"][0][:4], {"gen": "m", "num": "sg"}, 3)
        name, rank, kind, bundle, parts, agrees, order = told["rules"][1]
        parts[1] = ("by", "n", {"gen": ["m", "f"], "num": ["sg"]}, False)
        told["rules"][1] = (name, rank, kind, {"gen": ["m"], "num": ["sg", "pl"]}, parts, agrees, order)
        self.assertEqual(tongue_text(Tongue(told)), TEXT)

    def test_the_least_tongue(self):
        told = {"features": [], "kinds": [("s", [], False, False)], "seams": [], "stems": [], "endings": [], "rules": [],
                "start": "s"}
        self.assertEqual(tongue_text(Tongue(told)), "kind s plain\nstart s")
        self.assertEqual(tongue_from("kind s plain\nstart s").told(), told)

    def test_it_ends_without_a_line_end(self):
        self.assertFalse(tongue_text(Tongue(small())).endswith("\n"))
        self.assertNotIn("  ", tongue_text(Tongue(small())))

    def test_a_fill_and_a_host(self):
        told = one_rule(("r", 7, "s", {}, [("fill", "n", {}, False), ("host", "s", {}, True)], [], (4, 0, [])),
                        [("s", [], False, False), ("n", [], True, False)], [stem("a", "n", "p", 12)])
        self.assertEqual(tongue_text(Tongue(told)),
                         "kind s plain\nkind n gap\nstem a n x p 12\nending x - 0\nrule r 7 s 4 0\npart fill n shut\n"
                         "part host s lets\nstart s")


class ReadBack(unittest.TestCase):
    def test_the_text(self):
        self.assertEqual(tongue_from(TEXT).told(), TOLD)
        self.assertIsInstance(tongue_from(TEXT), Tongue)

    def test_told_the_same(self):
        for told, tongue in [(small(), Tongue(small())), *tongues(4, 60)]:
            twin = tongue_from(tongue_text(tongue))
            self.assertEqual(twin.told(), told)
            self.assertEqual(tongue_text(twin), tongue_text(tongue))

    def test_it_answers_as_the_one_that_was_written(self):
        tongue = Tongue(small())
        twin = tongue_from(tongue_text(tongue))
        self.assertEqual(forms(twin), forms(tongue))
        words = "a dog the cats see".split()
        self.assertEqual(readings(twin, words), readings(tongue, words))

    def test_each_row_alone_is_asked_for(self):
        # Without any row of rules that the others don't need the text still tells a tongue.
        self.assertEqual(len(tongue_from(with_row(AHEAD)).rules()[1][6][2]), 1)
        self.assertEqual(tongue_from(with_row(SEAM)).seams(), [("e", "", "")])


class NotSoWritten(unittest.TestCase):
    """Each row by itself, with its number."""

    def check(self, number, *rows):
        for row in rows:
            self.assertEqual(row_of(with_row(number, row)), number, row)

    def test_it_is_refused_with_a_field(self):
        with self.assertRaises(BadRow) as caught:
            tongue_from(with_row(KIND, "kinds s plain"))
        self.assertEqual(caught.exception.row, KIND)
        self.assertIsInstance(caught.exception, SpeechError)

    def test_blanks(self):
        for number, row in enumerate(ROWS):
            self.check(number, row + " ", " " + row, row.replace(" ", "  ", 1), "", " ", row.replace(" ", "\t", 1), row + "\r")

    def test_first_words(self):
        for number, row in enumerate(ROWS):
            name, _, rest = row.partition(" ")
            self.check(number, rest, name.upper() + " " + rest, name + "s " + rest, name[:-1] + " " + rest)

    def test_words_missing(self):
        for number, least in ((FEATURE, 3), (KIND, 3), (SEAM, 4), (STEM, 6), (ENDING, 4), (MORE, 6), (PART, 4), (AHEAD, 3),
                              (START, 2)):
            words = ROWS[number].split(" ")
            for many in range(1, least):
                self.check(number, " ".join(words[:many]))

    def test_one_word_too_many(self):
        self.check(SEAM, "seam y s ies x", "seam y s ies -")
        self.check(AHEAD, "ahead 0 1 2", "ahead 0 1 x")
        self.check(START, "start s s", "start s -")
        self.check(STEM, "stem cat n noun cat 3 x", "stem cat n noun cat 3 4")
        self.check(ENDING, "ending noun s 1 x", "ending noun s 1 num=pl -")
        self.check(MORE, "rule more 0 n 1 99 5", "rule more 0 n 1 99 -")
        self.check(PART, "part head n lets x", "part head n lets shut")

    def test_other_signs(self):
        for text in ("A", "a1", "a-", "_", "\u00e9", "a.b", "-a", "--", "=", "|"):
            self.check(FEATURE, f"feature {text} ! sg pl", f"feature num ! sg {text}", f"feature num {text} sg")
            self.check(KIND, f"kind {text} plain", f"kind s plain {text}", f"kind s {text}")
            self.check(SEAM, f"seam {text} s ies", f"seam y {text} ies", f"seam y s {text}")
            self.check(STEM, *[f"stem {' '.join([*'cat n noun cat'.split()[:at], text, *'cat n noun cat'.split()[at + 1:]])} 3"
                               for at in range(4)])
            self.check(ENDING, f"ending {text} s 1", f"ending noun {text} 1")
            self.check(RULE, f"rule {text} 4 s 0 0", f"rule top 4 {text} 0 0")
            self.check(PART, f"part {text} n lets", f"part head {text} lets", f"part head n {text}")
            self.check(START, f"start {text}")
        self.check(FEATURE, "feature - ! sg", "feature num ! -", "feature num - sg", "feature num !! sg", "feature num sg pl")
        self.check(KIND, "kind - plain", "kind s plain -", "kind s Plain", "kind s gap mute!", "kind s - num")
        self.check(STEM, "stem cat - noun cat 3", "stem cat n - cat 3", "stem cat n noun cat -")
        self.check(ENDING, "ending - s 1", "ending noun s -")
        self.check(RULE, "rule - 4 s 0 0", "rule top 4 - 0 0")
        self.check(PART, "part head - lets", "part head n -", "part head n let", "part head n True")
        self.check(START, "start -")

    def test_numbers(self):
        for text in ("00", "01", "1234567890", "0000000001", "-1", "+1", "x", "", "1.0", "\u0661", "\u00b2", "1_0", "0x1"):
            self.check(STEM, f"stem cat n noun cat {text} gen=m")
            self.check(ENDING, f"ending noun s {text} num=pl")
            self.check(RULE, f"rule top {text} s 0 0", f"rule top 4 s {text} 0", f"rule top 4 s 0 {text}")
            self.check(AGREE, f"agree whole.num {text}.num")
            self.check(AHEAD, f"ahead {text} 1", f"ahead 0 {text}")

    def test_marks(self):
        for words in ("num", "num=", "=sg", "num=sg=pl", "num==sg", "num=sg|pl", "num=SG", "n1=sg", "num:sg", "-", "num=-"):
            self.check(STEM, f"stem cat n noun cat 3 {words}")
            self.check(ENDING, f"ending noun s 1 {words}")

    def test_marks_by_rising_names_each_once(self):
        for words in ("num=sg gen=m", "num=sg num=sg", "num=sg num=pl", "gen=m num=sg gen=m", "gen=m gen=m"):
            self.check(STEM, f"stem cat n noun cat 3 {words}")
            self.check(ENDING, f"ending noun s 1 {words}")

    def test_bundles(self):
        for words in ("num", "num=", "=sg", "num=sg|", "num=|sg", "num=sg||pl", "num=sg|pl=x", "num=sg,pl", "num=sg num=pl",
                      "num=sg gen=m", "num=sg|pl num=sg|pl", "num= sg", "num=sg| pl", "num=-", "-"):
            self.check(MORE, f"rule more 0 n 1 99 {words}")
            self.check(PART, f"part head n lets {words}")

    def test_groups(self):
        for words in ("num", "0", "0.", ".num", "0.num.num", "whole", "whole.", "Whole.num", "-1.num", "0:num", "0.num whole",
                      "0.1", "wholes.num", "0.num,1.num", "-"):
            self.check(AGREE, f"agree {words}", f"agree whole.num 0.num {words}")

    def test_the_empty_text(self):
        self.assertEqual(row_of(""), 0)

    def test_a_line_end_behind_the_last(self):
        self.assertEqual(row_of(TEXT + "\n"), len(ROWS))
        self.assertEqual(row_of("\n" + TEXT), 0)
        self.assertEqual(row_of(TEXT.replace("\n", "\r\n")), 0)


class OutOfOrder(unittest.TestCase):
    def test_each_list_behind_a_later_one(self):
        first = (FEATURE, KIND, SEAM, STEM, ENDING, RULE)
        for at, number in enumerate(first):
            for later in first[at + 1:]:
                self.assertEqual(row_of(ahead_of(later + 1, ROWS[number])), later + 1, (number, later))
        for number in first[:5]:
            for later in (PART, AGREE, AHEAD):
                self.assertEqual(row_of(ahead_of(later + 1, ROWS[number])), later + 1)

    def test_what_is_told_of_a_rule_where_none_stands(self):
        for number in (PART, AGREE, AHEAD):
            self.assertEqual(row_of(ahead_of(RULE, ROWS[number])), RULE)
            self.assertEqual(row_of(ahead_of(0, ROWS[number])), 0)
            self.assertEqual(row_of(ahead_of(STEM, ROWS[number])), STEM)

    def test_what_is_told_of_a_rule_out_of_order(self):
        self.assertEqual(row_of(ahead_of(AGREE + 1, ROWS[PART])), AGREE + 1)
        self.assertEqual(row_of(ahead_of(AHEAD, ROWS[PART])), AHEAD)
        self.assertEqual(row_of(ahead_of(AHEAD + 1, ROWS[AGREE])), AHEAD + 1)
        self.assertEqual(row_of(ahead_of(AHEAD + 1, ROWS[PART])), AHEAD + 1)

    def test_start_missing_twice_and_not_the_last(self):
        self.assertEqual(row_of("\n".join(ROWS[:-1])), len(ROWS) - 1)
        self.assertEqual(row_of("kind s plain"), 1)
        self.assertEqual(row_of(TEXT + "\nstart s"), len(ROWS))
        self.assertEqual(row_of(TEXT + "\nkind x plain"), len(ROWS))
        self.assertEqual(row_of("start s\n" + TEXT), 1)
        self.assertEqual(row_of(ahead_of(RULE, "start s")), RULE + 1)


class NotSound(unittest.TestCase):
    """What is so written, but refused by [9]."""

    def check(self, number, *rows):
        for row in rows:
            self.assertEqual(row_of(with_row(number, row)), number, row)

    def test_features_and_kinds(self):
        self.check(FEATURE, "feature num !", "feature num :", "feature num ! sg sg", "feature num ! a b c d e f g",
                   "feature numnumnum ! sg", "feature num ! sg plplplplp")
        self.check(FEATURE + 1, "feature num : m f")
        self.check(KIND, "kind s plain num num", "kind s plain per", "kind nnnnnnnnn plain")
        self.check(KIND + 1, "kind s gap num gen")

    def test_seams_stems_and_endings(self):
        self.check(SEAM, "seam - s ies", "seam abcd s ies", "seam y abcd ies", "seam y s abcd")
        self.check(STEM, "stem - n noun cat 3", "stem cat n noun - 3", "stem cat n noun cat 1000", "stem cat v noun cat 3",
                   "stem cat n noun cat 3 num=m", "stem cat n noun cat 3 per=m", "stem catcatcat n noun cat 3",
                   "stem cat m noun - 3 gen=m", "stem cat n nounnouns cat 3", "stem cat n noun cat 999999999")
        self.check(STEM + 1, "stem the m bare the 0")
        self.check(ENDING, "ending noun sssssssss 1", "ending noun s 1000", "ending noun s 1 per=a", "ending noun s 1 num=m")

    def test_rules_are_told_by_their_first_row(self):
        self.check(RULE, "rule topppppppp 4 s 0 0", "rule top 1000 s 0 0", "rule top 4 x 0 0", "rule top 4 m 0 0",
                   "rule top 4 s 5 0", "rule top 4 s 0 100", "rule top 4 s 0 0 num=sg")
        self.check(MORE, "rule top 0 n 1 99 gen=m num=sg|pl", "rule more 0 n 1 99 gen=m num=pl|sg",
                   "rule more 0 n 1 99 gen=m num=sg|sg", "rule more 0 n 1 99 gen=m num=x")
        for number, *rows in ((PART, "part by n lets", "part head m lets", "part head x lets", "part host n lets", "part - n shut",
                               "part head n lets per=a", "part head n lets num=pl|sg", "part headheadx n lets"),
                              (PART + 2, "part head n lets", "part - m lets", "part by m shut", "part fill n shut"),
                              (AGREE, "agree", "agree whole.num 0.num 0.num", "agree whole.num 3.num", "agree whole.per 0.num",
                               "agree whole.num 999999999.num", "agree whole.num 2.gen", "agree whole.num"),
                              (AHEAD, "ahead 0 0", "ahead 0 3", "ahead 999999999 0", "ahead 2 0")):
            for row in rows:
                self.assertEqual(row_of(with_row(number, row)), MORE, row)
        # The last rule has no part at all.
        self.assertEqual(row_of(ahead_of(START, "rule last 0 s 0 0")), START)

    def test_start_and_rings(self):
        self.check(START, "start x", "start m", "start startstart")
        self.assertEqual(row_of(ahead_of(START, "rule ring 0 n 0 0", "part head n lets", "agree whole.num 0.num",
                                         "agree whole.gen 0.gen")), START)
        # Over two kinds: the one that stands first.
        rows = ["rule one 0 n 0 0 gen=m num=sg", "part head s lets"]
        self.assertEqual(row_of(ahead_of(START, *rows)), RULE)
        self.assertEqual(row_of(ahead_of(RULE, *rows)), RULE)

    def test_lists_that_are_too_long(self):
        letters = "abcdefghijklmnopqrstuvwxyz"
        names = ["x" + one + other for one in letters for other in letters]
        for number, most, row in ((KIND, 6, "feature {} ! a"), (SEAM, 12, "kind {} plain"), (STEM, 12, "seam a b c"),
                                  (ENDING, 40, "stem {} n noun cat 3"), (RULE, 40, "ending noun s 1")):
            first = [at for at, other in enumerate(ROWS) if other.split(" ")[0] == row.split(" ")[0]][0]
            have = number - first
            more = [row.format(name) for name in names]
            self.assertIsNone(row_of(ahead_of(number, *more[:most - have])))
            for beyond in (1, 2, 5):
                self.assertEqual(row_of(ahead_of(number, *more[:most - have + beyond])), first + most, row)

    def test_too_many_rules(self):
        letters = "abcdefghijklmnopqrstuvwxyz"
        more = [row for letter in letters + "zz" for row in (f"rule r{letter} 0 s 0 0", "part head n lets")]
        more = [row if not row.startswith("rule") else f"rule r{letters[at // 2 % 26]}{letters[at // 52]} 0 s 0 0"
                for at, row in enumerate(more)]
        self.assertIsNone(row_of(ahead_of(START, *more)))
        more += ["rule last 0 s 0 0", "part head n lets"]
        self.assertEqual(row_of(ahead_of(START, *more)), START + 56)

    def test_too_many_parts(self):
        self.assertIsNone(row_of(with_row(PART + 2, *["part - m shut"] * 3)))
        self.assertEqual(row_of(with_row(PART + 2, *["part - m shut"] * 4)), MORE)

    def test_things_that_may_stand_twice(self):
        for number in (SEAM, STEM, ENDING, AHEAD):
            self.assertIsNone(row_of(ahead_of(number, ROWS[number])))
        self.assertIsNone(row_of(ahead_of(AGREE, ROWS[AGREE])))


class SeveralFaults(unittest.TestCase):
    def test_the_first_row_that_is_not_so_written_goes(self):
        text = with_row(STEM, "stem cat  n noun cat 3").split("\n")
        text[AGREE] = "agree x"
        self.assertEqual(row_of("\n".join(text)), STEM)

    def test_what_is_not_so_written_ahead_of_what_is_not_sound(self):
        for last in ("start", "start S", "stop s"):
            self.assertEqual(row_of("\n".join(["feature num ! sg sg", *ROWS[1:-1], last])), START)
        self.assertEqual(row_of("\n".join(["feature num ! sg sg", *ROWS[1:-1]])), START)
        self.assertEqual(row_of("\n".join(["feature num ! sg sg", *ROWS[1:], ""])), START + 1)
        self.assertEqual(row_of("\n".join(["feature num ! sg sg", *ROWS[1:]])), 0)

    def test_of_what_is_not_sound_the_first_by_the_lists(self):
        text = ROWS[:]
        text[ENDING], text[START] = "ending noun s 1000", "start x"
        self.assertEqual(row_of("\n".join(text)), ENDING)


class Kept(unittest.TestCase):
    def test_what_is_told_is_the_askers_own(self):
        tongue = tongue_from(TEXT)
        told = tongue.told()
        told["rules"][1][4].clear()
        told["stems"][0][4].clear()
        self.assertEqual(tongue.told(), TOLD)
        self.assertEqual(tongue_from(TEXT).told(), TOLD)
        self.assertEqual(tongue_text(tongue), TEXT)

    def test_they_are_defined_in_their_files(self):
        self.assertEqual(sheet_file.tongue_from.__module__, "speechloom.sheet")
        self.assertEqual(written_file.tongue_text.__module__, "speechloom.written")


if __name__ == "__main__":
    unittest.main()
