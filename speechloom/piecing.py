"""Piecing: which pieces of one meaning the trees of a chart's node mean, as gathering.py tells."""

from speechloom.fitting import placed
from speechloom.gathering import unlike
from speechloom.trees import own_meaning


class Pieced:
    """The rising list of the unlike pieces; of rows that of tuples of pieces by parts' numbers, -1 for mute parts."""

    def __init__(self, tongue, pieces):
        self.tongue = tongue
        self.pieces = pieces

    def leaf(self, tree):
        """One word or gap."""
        if tree[0] == "word" and self.tongue.kind_named[self.tongue.own["stems"][tree[1]][1]][3]:
            return [-1]
        atom, marks, pairs = own_meaning(self.tongue, tree, [])
        piece = self.pieces.bare(atom, marks)
        return [piece] if piece >= 0 else []

    def begin(self, rule):
        """The row without parts."""
        return [(-1,) * len(self.tongue.own["rules"][rule][4])]

    def step(self, step, rows, inner):
        """Rows with one part more."""
        rule, part, place = step
        role = self.tongue.own["rules"][rule][4][part][0]
        if role not in ("head", "host", "fill", "-"):
            inner = [piece for piece in inner if self.pieces.is_part(piece, role)]
        return [placed(row, part, piece) for row in rows for piece in inner]

    def whole(self, rule, rows):
        """The pieces that a rule's trees mean."""
        roles = [part[0] for part in self.tongue.own["rules"][rule][4]]
        pieces = [self.piece_over(roles, row) for row in rows]
        return [piece for piece in pieces if piece >= 0]

    def piece_over(self, roles, row):
        """The piece that a whole means over parts of these roles and pieces, or -1."""
        if "host" in roles:
            return self.pieces.with_fill(row[roles.index("host")], row[roles.index("fill")])
        piece = row[roles.index("head")]
        for role, inner in zip(roles, row):
            if role not in ("head", "-") and piece >= 0:
                piece = self.pieces.with_part(piece, role, inner)
        return piece

    def choice(self, lists):
        """All together, each once."""
        return unlike([thing for things in lists for thing in things])
