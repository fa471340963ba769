"""Sheets: tongues read from their texts."""

from speechloom.entries import entry_from
from speechloom.errors import BadRow, BadTongue
from speechloom.tongues import Tongue

# The names of rows, in the order in which they stand; those of one rule, and where lists of a tongue are told.
ORDER = ("feature", "kind", "seam", "stem", "ending", "rule", "part", "agree", "ahead", "start")
OF_A_RULE = ("rule", "part", "agree", "ahead")
LISTS = {"feature": "features", "kind": "kinds", "seam": "seams", "stem": "stems", "ending": "endings", "rule": "rules"}


def tongue_from(text):
    """The Tongue that the text writes; refused with BadRow where it writes none."""
    sheet = Sheet()
    rows = text.split("\n")
    for number, row in enumerate(rows):
        sheet.take_row(number, row)
    if not sheet.is_done():
        raise BadRow(len(rows))
    return sheet.made_tongue()


class Sheet:
    """A tongue's text, taken row by row."""

    def __init__(self):
        self.last = ORDER[0]
        self.written = {LISTS[name]: [] for name in LISTS}
        # By the names of rows: the numbers of all such rows.
        self.numbers = {name: [] for name in ORDER}

    def take_row(self, number, row):
        """Takes the next row, of this number; refused with BadRow where it isn't so written or can't stand here."""
        words = row.split(" ")
        name = words[0]
        if name not in ORDER or not self.lets_stand(name):
            raise BadRow(number)
        thing = entry_from(name, words[1:])
        if thing is None:
            raise BadRow(number)
        self.keep(name, thing)
        self.numbers[name].append(number)
        self.last = name

    def lets_stand(self, name):
        """Whether a row of this name can stand behind the last one."""
        if self.is_done():
            return False
        if name == "rule":
            return True
        is_behind = ORDER.index(name) >= ORDER.index(self.last)
        return is_behind and (name not in OF_A_RULE or self.last in OF_A_RULE)

    def keep(self, name, thing):
        """Keeps what a row of this name tells."""
        if name in LISTS:
            self.written[LISTS[name]].append(thing)
        elif name == "start":
            self.written["start"] = thing
        else:
            label, rank, kind, bundle, parts, agrees, order = self.written["rules"][-1]
            goals = {"part": parts, "agree": agrees, "ahead": order[2]}
            goals[name].append(thing)

    def is_done(self):
        """Whether start has come."""
        return self.last == "start"

    def made_tongue(self):
        """The Tongue that is told; refused with BadRow where it isn't sound."""
        try:
            return Tongue(self.written)
        except BadTongue as bad:
            word, number = bad.why
            # A ring is told by one of its rules.
            raise BadRow(self.numbers["rule" if word == "ring" else word][number]) from None
