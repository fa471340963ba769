"""A desk: tongues and asks, told row by row, and the answers."""

from speechloom.answers import answer_to
from speechloom.entries import are_words, is_number
from speechloom.errors import BadRow
from speechloom.notes import meaning_from
from speechloom.parts import is_name
from speechloom.sheet import Sheet

# What stands behind the tongue's name in each ask: words, so many at least; a meaning; a number within bounds; nothing.
WITH_WORDS = {"read": 1, "means": 1, "count": 1, "next": 0, "more": 0, "turn": 1}
WITH_MEANING = ("say", "best")
WITH_NUMBER = {"twice": (0, 8), "alike": (1, 6)}
WITH_NOTHING = ("never", "idle")
MOST_WORDS = 14


def desk_told(text):
    """The list of the answers to all asks of the text; refused with BadRow ahead of all answers."""
    if text == "":
        return []
    desk = Desk()
    rows = text.split("\n")
    for number, row in enumerate(rows):
        desk.take_row(number, row)
    if desk.sheet is not None:
        raise BadRow(len(rows))
    return [answer_to(name, tongues, thing) for name, tongues, thing in desk.asks]


class Desk:
    """A desk's text, taken row by row. Fields for the askers: asks, the list of (name, tongues, what stands behind
    them); sheet, that of a tongue whose end hasn't come yet, or None."""

    def __init__(self):
        self.tongues = {}
        self.asks = []
        self.sheet = None
        self.label = ""

    def take_row(self, number, row):
        """Takes the next row, of this number; refused with BadRow where it isn't so written."""
        if self.sheet is None:
            words = row.split(" ")
            if not (self.takes_tongue(words) if words[0] == "tongue" else self.takes_ask(words)):
                raise BadRow(number)
        elif row == "end" and self.sheet.is_done():
            self.tongues[self.label] = self.sheet.made_tongue()
            self.sheet = None
        else:
            self.sheet.take_row(number, row)

    def takes_tongue(self, words):
        """Takes the first row of a tongue; whether it is so written."""
        if len(words) != 2 or not is_name(words[1]) or words[1] in self.tongues:
            return False
        self.label = words[1]
        self.sheet = Sheet()
        return True

    def takes_ask(self, words):
        """Takes an ask; whether it is so written."""
        many = 3 if words[0] == "turn" else 2
        labels = words[1:many]
        if len(words) < many or any(label not in self.tongues for label in labels):
            return False
        thing = asked_from(words[0], words[many:])
        if thing is None:
            return False
        self.asks.append((words[0], [self.tongues[label] for label in labels], thing))
        return True


def asked_from(name, words):
    """What the words behind the tongues of an ask of this name tell, or None where they aren't so written."""
    if name in WITH_WORDS:
        return words if WITH_WORDS[name] <= len(words) <= MOST_WORDS and are_words(words) else None
    if name in WITH_MEANING:
        return meaning_from(words)
    if name in WITH_NUMBER:
        least, most = WITH_NUMBER[name]
        is_so = len(words) == 1 and is_number(words[0]) and least <= int(words[0]) <= most
        return int(words[0]) if is_so else None
    return words if name in WITH_NOTHING and words == [] else None
