"""The refusals: each class tells in a field of its own what was refused."""


class SpeechError(ValueError):
    """What every refusal stands under."""


class BadTongue(SpeechError):
    """A tongue that isn't sound; why is a pair (word, number)."""

    def __init__(self, why):
        super().__init__(f"the tongue isn't sound: {why}")
        self.why = why


class BadTree(SpeechError):
    """A tree that can't stand; path is the tuple of numbers that leads to it."""

    def __init__(self, path):
        super().__init__(f"the tree can't stand at {path}")
        self.path = path


class BadRow(SpeechError):
    """A text that isn't so written; row is the number of its first wrong row."""

    def __init__(self, row):
        super().__init__(f"the text is wrong in row {row}")
        self.row = row
