"""Looms: all trees that mean pieces of one meaning, packed.

A loom's nodes are of two sorts: for all trees of one symbol that mean one piece, those with words and those without
apart; and for all rows of trees that begin a rule, as far as what comes behind can't tell them apart. A row begins with
what the whole's meaning comes of, the head or the host; the parts' places in what is heard are chosen last. An edge is
one way to make a node's trees, or rows, out of others:

("leaf", tree); ("rule", (rule, number of the part without words or -1), node of full rows);
("part", (rule, part), node of rows or -1, node of trees).
"""

from speechloom.fitting import bound_together, fits_of, fittings_of, picked, shared
from speechloom.pieces import ANY
from speechloom.trees import is_gap, word_meaning
from speechloom.words import kept_forms, word_symbol


class Turns:
    """In which order a rule's parts are joined. Fields for the askers: order, the list of the parts' numbers; at_turn,
    for each part its place in it; tied, for each place the bonds by which that part is tied to those ahead."""

    def __init__(self, fitting):
        roles = [part[0] for part in fitting.parts]
        self.order = sorted(range(len(roles)), key=lambda part: (rank_of(roles[part]), part))
        self.at_turn = [self.order.index(part) for part in range(len(roles))]
        self.tied = []
        ahead = []
        for part in self.order:
            self.tied.append(shared(fitting.touched[part], ahead))
            ahead = ahead + fitting.touched[part]


def rank_of(role):
    """Where a part of this role comes: what its meaning is put into goes ahead, and mute ones last."""
    if role in ("head", "host"):
        return 0
    return 2 if role == "-" else 1


class Loom:
    """Fields for the askers: edges, for each node the list of its edges; nodes, a dict from (symbol, piece, whether
    without words) to the node of those trees."""

    def __init__(self, tongue, pieces, gap):
        self.tongue = tongue
        self.pieces = pieces
        self.turns = turns_of(tongue)
        self.edges = []
        self.nodes = {}
        self.fresh = []
        # By (rule, turn, what is bound by the ties, piece of a fill or ANY): the parts that may come there, and the
        # rows that wait for them.
        self.shelves = {}
        self.waiting = {}
        self.begun = {}
        if self.can_be_said(gap):
            self.put_words()
            if gap != () and is_gap(tongue, gap[0], gap[1]):
                self.put_gap(gap)
            self.weave()

    def can_be_said(self, gap):
        """Whether there is a word for each atom of the meaning, a part for each role, and a hole just where a gap is.

        Where one is wanting nothing says the meaning, however many pieces of it could be said.
        """
        if self.pieces.asked < 0 or self.pieces.is_holed() != (gap != ()):
            return False
        known = kept_words(self.tongue)[0]
        roles = [part[0] for rule in self.tongue.own["rules"] for part in rule[4]]
        atoms = [self.pieces.made_of[full][:2] for full in self.pieces.fulls]
        return all(atom in known or atom == ("", ()) for atom in atoms) and all(
            role in roles for role, piece in self.pieces.pairs)

    def put_words(self):
        """Makes the nodes of words: those that mean a piece, and all mute ones."""
        bare_words, mute_words = kept_words(self.tongue)
        for symbol, tree in mute_words:
            self.put_said((symbol, -1, False), ("leaf", tree))
        for key in bare_words:
            piece = self.pieces.bare(key[0], key[1])
            if piece >= 0:
                for symbol, tree in bare_words[key]:
                    self.put_said((symbol, piece, False), ("leaf", tree))

    def put_gap(self, gap):
        """Makes the node of a gap, where there is none yet."""
        key = ((gap[0], gap[1], gap), self.pieces.bare("", ()), True)
        if key[1] >= 0 and key not in self.nodes:
            self.put_said(key, ("leaf", ("gap", gap[0], gap[1])))

    def weave(self):
        """Uses each node of trees, those that come up on the way too."""
        at = 0
        while at < len(self.fresh):
            self.use_said(self.fresh[at])
            at += 1

    def new_node(self, edge):
        """A node with one edge."""
        self.edges.append([edge])
        return len(self.edges) - 1

    def put_said(self, key, edge):
        """Gives the node of these trees one edge more."""
        if key in self.nodes:
            self.edges[self.nodes[key]].append(edge)
        else:
            self.nodes[key] = self.new_node(edge)
            self.fresh.append(key)

    def use_said(self, key):
        """Puts the trees of a node into all parts that they fit."""
        symbol, piece, is_silent = key
        for fitting, part, binds in fits_of(self.tongue, symbol):
            role = fitting.parts[part][0]
            taken = (part, binds, fitting.gap_through(symbol), piece, is_silent, self.nodes[key])
            if role in ("head", "host"):
                self.begin_row(fitting, taken)
            elif role in ("fill", "-") or self.pieces.is_part(piece, role):
                self.use_behind(fitting, taken)
            if role == "fill" and is_gap(self.tongue, symbol[0], symbol[1]):
                self.put_gap((symbol[0], symbol[1]))

    def begin_row(self, fitting, taken):
        """Begins rows with a head or a host."""
        part, binds, gap, piece, is_silent, node = taken
        key = (fitting.number, 1, binds, gap, piece, part if is_silent else -1)
        self.put_row(fitting, key, ("part", (fitting.number, part), -1, node))

    def use_behind(self, fitting, taken):
        """Puts a part that isn't the first one onto its shelf, and behind all rows that wait for it."""
        turns = self.turns[fitting.number]
        turn = turns.at_turn[taken[0]]
        tied = picked(taken[1], turns.tied[turn])
        for wish in [ANY, taken[3]] if fitting.parts[taken[0]][0] == "fill" else [ANY]:
            place = (fitting.number, turn, tied, wish)
            self.shelves.setdefault(place, []).append(taken)
            for key in list(self.waiting.get(place, [])):
                self.go_behind(fitting, key, taken)

    def go_behind(self, fitting, key, taken):
        """Puts a part behind rows, where they can stand together."""
        rule, turn, bound, held, piece, unheard = key
        part, binds, gap, inner, is_silent, node = taken
        if held != () and gap != ():
            return
        whole = self.piece_behind(fitting.parts[part][0], piece, inner)
        both = bound_together(bound, binds) if whole >= 0 else None
        if both is not None:
            later = (rule, turn + 1, both, held or gap, whole, part if is_silent else unheard)
            self.put_row(fitting, later, ("part", (rule, part), self.begun[key], node))

    def piece_behind(self, role, piece, inner):
        """What rows mean with a part more, or -1."""
        if role == "-":
            return piece
        if role == "fill":
            return self.pieces.with_fill(piece, inner)
        return self.pieces.with_part(piece, role, inner)

    def put_row(self, fitting, key, edge):
        """Gives the node of these rows (rule, parts that are there, what is bound, gap, piece, part without words) one
        edge more."""
        if key in self.begun:
            self.edges[self.begun[key]].append(edge)
            return
        self.begun[key] = self.new_node(edge)
        rule, turn, bound, gap, piece, unheard = key
        if turn == len(fitting.parts):
            symbol = fitting.whole(bound, gap)
            is_silent = unheard >= 0 and turn == 1
            self.put_said((symbol, piece, is_silent), ("rule", (rule, unheard), self.begun[key]))
            return
        turns = self.turns[rule]
        tied = picked(bound, turns.tied[turn])
        for wish in self.pieces.fills_wanted(piece) if fitting.parts[turns.order[turn]][0] == "fill" else [ANY]:
            place = (rule, turn, tied, wish)
            self.waiting.setdefault(place, []).append(key)
            for taken in list(self.shelves.get(place, [])):
                self.go_behind(fitting, key, taken)


def turns_of(tongue):
    """The list of the turns of all rules, made once."""
    if "turns" not in tongue.kept:
        tongue.kept["turns"] = [Turns(fitting) for fitting in fittings_of(tongue)]
    return tongue.kept["turns"]


def kept_words(tongue):
    """All words as a dict from (atom, marks) to lists of (symbol, tree), and the list of the mute ones; made once."""
    if "words by meaning" not in tongue.kept:
        speaking, mute = {}, []
        for text, stem, ending in kept_forms(tongue):
            pair = (word_symbol(tongue, stem, ending), ("word", stem, ending))
            if tongue.kind_named[pair[0][0]][3]:
                mute.append(pair)
            else:
                atom, marks, pairs = word_meaning(tongue, stem, ending)
                speaking.setdefault((atom, marks), []).append(pair)
        tongue.kept["words by meaning"] = (speaking, mute)
    return tongue.kept["words by meaning"]
