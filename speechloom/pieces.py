"""Pieces: a meaning taken apart into all that the trees within its sentences could mean.

A piece is a meaning that is found in the asked one: one within it, whole, with some of its pairs, or with a hole for
what a fill stands for. All are known by numbers: two pieces that are the same meaning have the same number.

Where a piece could be found is told by its homes: pairs of one of the whole meanings within the asked one, and the
rising tuple of those of its pairs that the piece hasn't got. What has no home is no piece.
"""

from speechloom.meanings import all_within

# What leads to the hole in a piece: the number of a pair, or one of these.
IS_HOLE = -1
NO_HOLE = -2

# Instead of a piece: each of them.
ANY = -3


class Pieces:
    """The pieces of one meaning. Fields for the askers: asked, the number of the meaning itself, -1 where it is none;
    fulls, a dict with the numbers of the whole meanings within it."""

    def __init__(self, meaning):
        # By pieces' numbers: (atom, marks, rising tuple of pairs' numbers); what leads to the hole.
        self.made_of = []
        self.hole_in = []
        self.piece_numbers = {}
        # By pairs' numbers: (role, piece).
        self.pairs = []
        self.pair_numbers = {}
        self.fulls = {}
        self.homes = {}
        self.completes = {}
        self.bares = {}
        self.tried_parts = {}
        self.tried_fills = {}
        self.fillers = {}
        self.asked = self.number_all(meaning)
        for full in self.fulls:
            if self.hole_in[full] == NO_HOLE:
                atom, marks, pairs = self.made_of[full]
                self.with_all(self.bare(atom, marks), pairs)

    def number_all(self, meaning):
        """Numbers the whole meanings within, inner ones first; the number of the meaning itself."""
        rows = all_within(meaning)
        if any(list(inner[2]) != sorted(inner[2]) for inner, around, number in rows):
            return -1
        pairs = [[] for row in rows]
        piece = -1
        for at in reversed(range(len(rows))):
            inner, around, number = rows[at]
            piece = self.piece_number(inner[0], inner[1], tuple(sorted(pairs[at])))
            self.fulls[piece] = True
            if around >= 0:
                pairs[around].append(self.pair_number(rows[around][0][2][number][0], piece))
        return piece

    def is_holed(self):
        """Whether the meaning itself, where it is one, has a hole."""
        return self.hole_in[self.asked] != NO_HOLE

    def pair_number(self, role, piece):
        """The number of a pair, a new one where there is none yet."""
        key = (role, piece)
        if key not in self.pair_numbers:
            self.pair_numbers[key] = len(self.pairs)
            self.pairs.append(key)
        return self.pair_numbers[key]

    def piece_number(self, atom, marks, pairs):
        """The number of a piece, a new one where there is none yet."""
        key = (atom, marks, pairs)
        if key not in self.piece_numbers:
            self.piece_numbers[key] = len(self.made_of)
            self.made_of.append(key)
            self.hole_in.append(self.way_to_hole(atom, marks, pairs))
        return self.piece_numbers[key]

    def way_to_hole(self, atom, marks, pairs):
        """The number of the pair that has the hole within, IS_HOLE or NO_HOLE."""
        if atom == "" and marks == ():
            return IS_HOLE
        for pair in pairs:
            if self.hole_in[self.pairs[pair][1]] != NO_HOLE:
                return pair
        return NO_HOLE

    def at_home(self, atom, marks, pairs, homes):
        """The number of the piece with these homes, or -1 where it has none."""
        if not homes:
            return -1
        piece = self.piece_number(atom, marks, pairs)
        if piece not in self.homes:
            self.homes[piece] = homes
            # A hole may be made in a whole meaning with any of its pairs: its fill has the others.
            is_hole = self.hole_in[piece] == IS_HOLE
            self.completes[piece] = [full for full, rest in homes
                                     if rest == () or (is_hole and self.hole_in[full] == NO_HOLE)]
        return piece

    def bare(self, atom, marks):
        """The piece of this atom and these marks (of a hole "" and ()), without pairs, or -1."""
        key = (atom, marks)
        if key not in self.bares:
            homes = [(full, self.made_of[full][2]) for full in self.fulls
                     if key == ("", ()) or self.made_of[full][:2] == key]
            self.bares[key] = self.at_home(atom, marks, (), homes)
        return self.bares[key]

    def is_part(self, piece, role):
        """Whether a part of this role, one of its own, could mean this piece."""
        return any((role, full) in self.pair_numbers for full in self.completes[piece])

    def with_part(self, piece, role, inner):
        """The piece with a pair more, or -1; one of both may have a hole."""
        key = (piece, role, inner)
        if key not in self.tried_parts:
            wanted = [self.pair_numbers.get((role, full), -1) for full in self.completes[inner]]
            homes = [(full, without(rest, pair)) for full, rest in self.homes[piece] for pair in wanted if pair in rest]
            atom, marks, pairs = self.made_of[piece]
            if homes:
                pairs = tuple(sorted((*pairs, self.pair_number(role, inner))))
            self.tried_parts[key] = self.at_home(atom, marks, pairs, homes)
        return self.tried_parts[key]

    def with_all(self, piece, pairs):
        """The piece with all these pairs more, or -1."""
        for pair in pairs:
            if piece >= 0:
                piece = self.with_part(piece, self.pairs[pair][0], self.pairs[pair][1])
        return piece

    def fills_wanted(self, host):
        """The list of the only pieces that can fill the host's hole, [ANY] where each may be looked at."""
        outer, hole = self.around_hole(host)
        return list(self.fillers_of(hole)) if outer else [ANY]

    def with_fill(self, host, fill):
        """The piece that comes of the host's hole being filled, or -1."""
        key = (host, fill)
        if key not in self.tried_fills:
            self.tried_fills[key] = self.newly_filled(host, fill)
        return self.tried_fills[key]

    def newly_filled(self, host, fill):
        """What with_fill tells, worked out."""
        outer, hole = self.around_hole(host)
        if not outer:
            return self.with_all(fill, self.made_of[hole][2])
        # Within another one what is filled must be whole: there is one such fill alone for each home of the hole.
        piece = self.fillers_of(hole).get(fill, -1)
        for around in reversed(outer):
            if piece >= 0:
                piece = self.with_changed_pair(around, piece)
        return piece

    def around_hole(self, host):
        """The list of the pieces around the host's hole, the host itself first, and the hole."""
        outer = []
        while self.hole_in[host] != IS_HOLE:
            outer.append(host)
            host = self.pairs[self.hole_in[host]][1]
        return (outer, host)

    def fillers_of(self, hole):
        """A dict from the pieces that make the hole a whole meaning to these."""
        if hole not in self.fillers:
            found = {}
            for full, rest in self.homes[hole]:
                if self.hole_in[full] == NO_HOLE:
                    atom, marks, pairs = self.made_of[full]
                    found[self.with_all(self.bare(atom, marks), rest)] = full
            self.fillers[hole] = found
        return self.fillers[hole]

    def with_changed_pair(self, piece, inner):
        """The piece with this one in the place of the one that has the hole, or -1."""
        atom, marks, pairs = self.made_of[piece]
        changed = self.hole_in[piece]
        rest = self.with_all(self.bare(atom, marks), without(pairs, changed))
        return self.with_part(rest, self.pairs[changed][0], inner)


def without(pairs, pair):
    """The tuple without one of its members that is this pair."""
    at = pairs.index(pair)
    return pairs[:at] + pairs[at + 1:]
