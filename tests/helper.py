"""What several tests need: a small tongue, tongues by a seeded chance, and plain tellers written apart from the program."""

import itertools
import random

from speechloom.errors import BadTongue
from speechloom.tongues import Tongue

ROLES = ("by", "to")


def small():
    """A small sound tongue, told anew each time: "the cats see a dog", "a dog the cats see"."""
    return {
        "features": [("num", ["sg", "pl"], True), ("per", ["one", "three"], False), ("tense", ["now", "past"], True)],
        "kinds": [
            ("s", ["tense"], False, False), ("np", ["num", "per"], True, False),
            ("vp", ["per", "num", "tense"], False, False), ("v", ["num", "per", "tense"], False, False),
            ("n", ["num"], False, False), ("det", ["num"], False, True), ("adv", [], False, False),
        ],
        "seams": [("y", "s", "ies"), ("ee", "s", "ees")],
        "stems": [
            ("cat", "n", "noun", "cat", {}, 1), ("city", "n", "noun", "town", {}, 2), ("dog", "n", "noun", "dog", {}, 0),
            ("the", "det", "both", "", {}, 0), ("a", "det", "bare", "", {"num": "sg"}, 0),
            ("i", "np", "bare", "me", {"num": "sg", "per": "one"}, 3),
            ("see", "v", "verb", "see", {}, 5), ("saw", "v", "past", "see", {"tense": "past"}, 6),
            ("now", "adv", "bare", "now", {}, 4),
        ],
        "endings": [
            ("noun", "", {"num": "sg"}, 0), ("noun", "s", {"num": "pl"}, 10), ("bare", "", {}, 0),
            ("both", "", {"num": "sg"}, 0), ("both", "", {"num": "pl"}, 0),
            ("verb", "s", {"num": "sg", "per": "three", "tense": "now"}, 0),
            ("verb", "", {"num": "sg", "per": "one", "tense": "now"}, 0),
            ("verb", "", {"num": "pl", "per": "three", "tense": "now"}, 0),
            ("past", "", {"num": "sg", "per": "one"}, 0), ("past", "", {"num": "sg", "per": "three"}, 0),
            ("past", "", {"num": "pl", "per": "three"}, 0),
        ],
        "rules": [
            ("clause", 20, "s", {}, [("by", "np", {}, False), ("head", "vp", {}, True)],
             [[(0, "num"), (1, "num")], [(0, "per"), (1, "per")], [(-1, "tense"), (1, "tense")]], (0, 0, [])),
            ("noun", 0, "np", {"per": ["three"]}, [("-", "det", {}, False), ("head", "n", {}, False)],
             [[(-1, "num"), (0, "num"), (1, "num")]], (0, 0, [])),
            ("verb", 0, "vp", {}, [("head", "v", {}, False), ("to", "np", {}, True)],
             [[(-1, "num"), (0, "num")], [(-1, "per"), (0, "per")], [(0, "tense"), (-1, "tense")]], (0, 0, [])),
            ("front", 7, "s", {"tense": ["now", "past"]}, [("fill", "np", {}, False), ("host", "s", {}, True)],
             [[(-1, "tense"), (1, "tense")]], (0, 0, [])),
            ("when", 0, "vp", {}, [("head", "vp", {}, True), ("at", "adv", {}, False)],
             [[(-1, "num"), (0, "num")], [(-1, "per"), (0, "per")], [(0, "tense"), (-1, "tense")]], (1, 3, [])),
        ],
        "start": "s",
    }


def one_rule(rule, kinds, stems=(), features=()):
    """A tongue of one rule; each stem is a word by itself, of a line that has just the empty ending."""
    return {
        "features": list(features), "kinds": list(kinds), "seams": [], "stems": list(stems),
        "endings": [("x", "", {}, 0)], "rules": [rule], "start": rule[2],
    }


def stem(text, kind, atom, rank=0):
    return (text, kind, "x", atom, {}, rank)


def pairing(stems, rank=0, order=(0, 0, [])):
    """A tongue of one kind and one rule, which joins two of them."""
    rule = ("r", rank, "n", {}, [("head", "n", {}, False), ("by", "n", {}, False)], [], order)
    return one_rule(rule, [("n", [], False, False)], stems)


def some(chance, things, least=0):
    things = list(things)
    return chance.sample(things, chance.randint(least, len(things))) if things else []


def bundle_of(chance, features, names):
    found = {}
    for name in some(chance, names):
        values = [values for feature, values, _ in features if feature == name][0]
        kept = some(chance, values, 1)
        found[name] = [value for value in values if value in kept]
    return found


def rule_of(chance, number, features, kinds):
    plain = [kind for kind in kinds if not kind[3]]
    mute = [kind for kind in kinds if kind[3]]
    gaps = [kind for kind in kinds if kind[2]]
    whole = chance.choice(plain)
    if gaps and chance.random() < 0.3:
        chosen = [("host", chance.choice(plain), True), ("fill", chance.choice(gaps), False)]
    else:
        chosen = [("head", chance.choice(plain), chance.random() < 0.8)]
        for _ in range(chance.choice((0, 0, 1, 1, 2))):
            chosen.append((chance.choice(ROLES), chance.choice(plain), chance.random() < 0.7))
    if mute and chance.random() < 0.3:
        chosen.append(("-", chance.choice(mute), False))
    chance.shuffle(chosen)
    parts = [(role, kind[0], bundle_of(chance, features, kind[1]) if chance.random() < 0.25 else {}, lets)
             for role, kind, lets in chosen]
    bundle = bundle_of(chance, features, whole[1]) if chance.random() < 0.3 else {}
    pairs = [(at, name) for at, (_, kind, _) in enumerate(chosen) for name in kind[1]]
    agrees = []
    for name in whole[1]:
        alike = [pair for pair in pairs if pair[1] == name] or pairs
        if alike and chance.random() < 0.8:
            agrees.append([(-1, name), chance.choice(alike)])
        else:
            bundle[name] = [chance.choice([values for feature, values, _ in features if feature == name][0])]
    pairs += [(-1, name) for name in whole[1]]
    if len(pairs) > 1:
        agrees += [chance.sample(pairs, 2) for _ in range(chance.choice((0, 0, 1, 2)))]
    chance.shuffle(agrees)
    many = len(parts)
    ahead = [tuple(chance.sample(range(many), 2))] if many > 1 and chance.random() < 0.3 else []
    order = (chance.randint(0, many), chance.randint(0, 3), ahead)
    return (f"r{chr(97 + number)}", chance.randint(0, 3), whole[0], bundle, parts, agrees, order)


def told_by(chance):
    """A dict that may be no sound tongue."""
    features = [("num", ["sg", "pl"], chance.random() < 0.5), ("per", ["one", "sg"], True)][:chance.randint(1, 2)]
    names = [feature[0] for feature in features]
    kinds = [("s", some(chance, names), False, False), ("n", some(chance, names), True, False),
             ("v", some(chance, names), chance.random() < 0.4, False), ("m", some(chance, names), False, True)]
    stems, endings = [], []
    for number in range(chance.randint(3, 5)):
        kind = chance.choice(kinds + kinds[1:3])
        marks = {name: chance.choice(values) for name, values, _ in features if name in kind[1]}
        marks = {name: marks[name] for name in some(chance, marks)}
        stems.append((chance.choice(("a", "b")), kind[0], chance.choice(("x", "x", "y")),
                      "" if kind[3] else chance.choice(("p", "q")), marks, chance.randint(0, 2)))
    for number in range(chance.randint(2, 5)):
        marks = {name: chance.choice(values) for name, values, _ in features}
        endings.append((chance.choice(("x", "x", "y")), chance.choice(("", "", "b")),
                        {name: marks[name] for name in some(chance, marks)}, chance.randint(0, 1)))
    rules = [rule_of(chance, number, features, kinds) for number in range(chance.randint(2, 4))]
    seams = [("a", "b", chance.choice(("b", "", "ab")))] if chance.random() < 0.3 else []
    return {"features": features, "kinds": kinds, "seams": seams, "stems": stems, "endings": endings,
            "rules": rules, "start": chance.choice(("s", "s", "n", "v"))}


def tongues(seed, many):
    """So many pairs (told, Tongue), of each of which two rules at least can stand over something."""
    chance = random.Random(seed)
    found = []
    while len(found) < many:
        told = told_by(chance)
        try:
            tongue = Tongue(told)
        except BadTongue:
            continue
        symbols, rows = Plain(told).grown()
        if len({row[0] for row in rows}) >= 2 and len(symbols) <= 40:
            found.append((told, tongue))
    return found


class Plain:
    """A told dict, asked by the words of [5] to [14] alone."""

    def __init__(self, told):
        self.told = told
        self.values = {name: values for name, values, _ in told["features"]}
        self.is_told = {name: flag for name, _, flag in told["features"]}
        self.own = {name: names for name, names, _, _ in told["kinds"]}
        self.gaps = {name for name, _, gap, _ in told["kinds"] if gap}
        self.rules = told["rules"]

    # Words.
    def text(self, stem, ending):
        stem, ending = self.told["stems"][stem][0], self.told["endings"][ending][1]
        for left, right, made in self.told["seams"]:
            if stem[-len(left):] == left and ending[:len(right)] == right:
                return stem[:-len(left)] + made + ending[len(right):]
        return stem + ending

    def word_values(self, stem, ending):
        if stem not in range(len(self.told["stems"])) or ending not in range(len(self.told["endings"])):
            return None
        _, kind, line, _, marks, _ = self.told["stems"][stem]
        other, _, more, _ = self.told["endings"][ending]
        pairs = set(marks.items()) | set(more.items())
        if line != other or not self.text(stem, ending) or sorted(name for name, _ in pairs) != sorted(self.own[kind]):
            return None
        return tuple(dict(pairs)[name] for name in self.own[kind])

    def word_trees(self):
        for stem in range(len(self.told["stems"])):
            for ending in range(len(self.told["endings"])):
                if self.word_values(stem, ending) is not None:
                    yield ("word", stem, ending)

    def gap_trees(self):
        for kind in sorted(self.gaps):
            for values in itertools.product(*[self.values[name] for name in self.own[kind]]):
                yield ("gap", kind, values)

    # Orders.
    def places(self, rule):
        stray, _, ahead = rule[6]
        return [row for row in itertools.permutations(range(len(rule[4])))
                if all(abs(place - part) <= stray for part, place in enumerate(row))
                and all(row[i] < row[j] for i, j in ahead)]

    def stir(self, rule, places):
        return rule[6][1] * sum(abs(place - part) for part, place in enumerate(places))

    def quiet(self, rule, places, part):
        def order(row):
            return [number for _, number in sorted((row[number], number) for number in range(len(row)) if number != part)]
        return min((row for row in self.places(rule) if order(row) == order(places)),
                   key=lambda row: (self.stir(rule, row), row))

    # Trees.
    def symbol(self, tree):
        """(symbol, None), or (None, path)."""
        if tree[0] == "word":
            values = self.word_values(tree[1], tree[2])
            return (None, ()) if values is None else ((self.told["stems"][tree[1]][1], values, ()), None)
        if tree[0] == "gap":
            stands = ("gap", tree[1], tree[2]) in list(self.gap_trees())
            return ((tree[1], tree[2], (tree[1], tree[2])), None) if stands else (None, ())
        symbols = []
        for number, inner in enumerate(tree[3]):
            symbol, path = self.symbol(inner)
            if symbol is None:
                return (None, (number, *path))
            symbols.append(symbol)
        if tree[1] not in range(len(self.rules)):
            return (None, ())
        rule = self.rules[tree[1]]
        if len(symbols) != len(rule[4]) or tree[2] not in self.places(rule):
            return (None, ())
        if any(not self.words(inner) and self.quiet(rule, tree[2], number) != tree[2]
               for number, inner in enumerate(tree[3])):
            return (None, ())
        whole = self.whole(rule, symbols)
        return (whole, None if whole else ())

    def whole(self, rule, symbols):
        """The symbol over parts of these symbols, or None."""
        _, _, kind, bundle, parts, agrees, _ = rule
        rows = []
        for (_, part_kind, part_bundle, _), symbol in zip(parts, symbols):
            if symbol[0] != part_kind:
                return None
            row = dict(zip(self.own[part_kind], symbol[1]))
            if any(row[name] not in part_bundle[name] for name in part_bundle):
                return None
            rows.append(row)
        whole = {}
        for name in self.own[kind]:
            shared = [pair for group in agrees if (-1, name) in group for pair in group if pair[0] != -1]
            whole[name] = rows[shared[0][0]][shared[0][1]] if shared else bundle[name][0]
        rows.append(whole)
        if any(whole[name] not in bundle[name] for name in bundle):
            return None
        if any(rows[one][f] != rows[other][g] for group in agrees for one, f in group for other, g in group):
            return None
        gaps = [(number, symbol[2]) for number, symbol in enumerate(symbols) if symbol[2]]
        roles = [part[0] for part in parts]
        if "host" in roles:
            host, fill = roles.index("host"), roles.index("fill")
            return (kind, tuple(whole.values()), ()) if gaps == [(host, symbols[fill][:2])] else None
        if len(gaps) > 1 or any(not parts[number][3] for number, _ in gaps):
            return None
        return (kind, tuple(whole.values()), gaps[0][1] if gaps else ())

    def words(self, tree):
        if tree[0] == "word":
            return [self.text(tree[1], tree[2])]
        if tree[0] == "gap":
            return []
        rows = sorted((place, number) for number, place in enumerate(tree[2]))
        return [word for _, number in rows for word in self.words(tree[3][number])]

    def meaning(self, tree):
        if tree[0] == "gap":
            return ("", (), ())
        if tree[0] == "word":
            _, kind, _, atom, _, _ = self.told["stems"][tree[1]]
            pairs = zip(self.own[kind], self.word_values(tree[1], tree[2]))
            return (atom, tuple(sorted(pair for pair in pairs if self.is_told[pair[0]])), ())
        return self.meaning_over([part[0] for part in self.rules[tree[1]][4]], [self.meaning(below) for below in tree[3]])

    def meaning_over(self, roles, inner):
        if "host" in roles:
            return self.fill(inner[roles.index("host")], inner[roles.index("fill")])
        atom, marks, pairs = inner[roles.index("head")]
        more = [(role, meaning) for role, meaning in zip(roles, inner) if role not in ("head", "-")]
        return (atom, marks, tuple(sorted([*pairs, *more])))

    def fill(self, meaning, filler):
        atom, marks, pairs = meaning
        if atom == "" and marks == ():
            return (filler[0], filler[1], tuple(sorted(pairs + filler[2])))
        return (atom, marks, tuple(sorted((role, self.fill(inner, filler)) for role, inner in pairs)))

    def cost(self, tree):
        if tree[0] == "gap":
            return 0
        if tree[0] == "word":
            return self.told["stems"][tree[1]][5] + self.told["endings"][tree[2]][3]
        rule = self.rules[tree[1]]
        return rule[1] + self.stir(rule, tree[2]) + sum(self.cost(inner) for inner in tree[3])

    # Growing and reading.
    def grown(self):
        """(the set of sayable symbols, the set of instances), by asking of everything until nothing is new."""
        symbols = {self.symbol(tree)[0] for tree in [*self.word_trees(), *self.gap_trees()]}
        while True:
            found = set()
            for number, rule in enumerate(self.rules):
                pools = [[symbol for symbol in symbols if symbol[0] == part[1]] for part in rule[4]]
                for row in itertools.product(*pools):
                    whole = self.whole(rule, row)
                    if whole:
                        found.add((number, row, whole))
            more = symbols | {row[2] for row in found}
            if more == symbols:
                return symbols, found
            symbols = more

    def trees(self, words):
        """All trees with just these words, as a dict from symbols to lists of trees by rising (cost, tree)."""
        words = tuple(words)
        known = {}
        pieces = {words[i:j] for i in range(len(words) + 1) for j in range(i, len(words) + 1)}
        for piece in sorted(pieces, key=len):
            known[piece] = dict()
            leaves = self.gap_trees() if not piece else self.word_trees()
            for tree in leaves:
                if self.words(tree) == list(piece):
                    known[piece][tree] = self.symbol(tree)[0]
            while True:
                new = {tree: symbol for tree, symbol in self.rule_trees(piece, known) if tree not in known[piece]}
                if not new:
                    break
                known[piece].update(new)
        told = {}
        for tree, symbol in known[words].items():
            told.setdefault(symbol, []).append(tree)
        return {symbol: sorted(told[symbol], key=lambda tree: (self.cost(tree), tree)) for symbol in told}

    def rule_trees(self, piece, known):
        for number, rule in enumerate(self.rules):
            many = len(rule[4])
            for places in self.places(rule):
                for cuts in itertools.combinations_with_replacement(range(len(piece) + 1), many - 1):
                    bounds = [0, *cuts, len(piece)]
                    pieces = [piece[bounds[places[part]]:bounds[places[part] + 1]] for part in range(many)]
                    if any(not pieces[part] and self.quiet(rule, places, part) != places for part in range(many)):
                        continue
                    pools = [[tree for tree, symbol in known[pieces[part]].items() if symbol[0] == rule[4][part][1]]
                             for part in range(many)]
                    for trees in itertools.product(*pools):
                        whole = self.whole(rule, [known[pieces[part]][trees[part]] for part in range(many)])
                        if whole:
                            yield ("rule", number, places, trees), whole

    def readings(self, words):
        found = [tree for symbol, trees in self.trees(words).items()
                 if symbol[0] == self.told["start"] and symbol[2] == () for tree in trees]
        return sorted(found, key=lambda tree: (self.cost(tree), tree))

    # Saying.
    def trees_meaning(self, meaning):
        """All trees of this meaning that aren't mute, as a dict from symbols to lists of trees by rising (cost, tree)."""
        told = {}
        for name, _, _, mute in self.told["kinds"]:
            if not mute:
                for tree, symbol in self.meant(name, meaning, {}):
                    told.setdefault(symbol, []).append(tree)
        return {symbol: sorted(told[symbol], key=lambda tree: (self.cost(tree), tree)) for symbol in told}

    def meant(self, kind, meaning, known):
        """The list of (tree, symbol) of all trees of this kind and meaning, from above: a rule's parts take pairs."""
        key = (kind, meaning)
        if key not in known:
            leaves = [tree for tree in [*self.word_trees(), *self.gap_trees()]
                      if self.symbol(tree)[0][0] == kind and self.meaning(tree) == meaning]
            found = [(tree, self.symbol(tree)[0]) for tree in leaves]
            for number, rule in enumerate(self.rules):
                if rule[2] == kind:
                    for row in self.split(rule, meaning):
                        found += self.over(number, rule, row, known)
            known[key] = found
        return known[key]

    def split(self, rule, meaning):
        """All rows of meanings for a rule's parts (None for mute ones) that make this meaning together."""
        roles = [part[0] for part in rule[4]]
        if "host" in roles:
            pairs = [] if self.holes(meaning) else list(self.holed(meaning))
            return [[{"host": host, "fill": fill, "-": None}[role] for role in roles] for host, fill in set(pairs)]
        own = [part for part, role in enumerate(roles) if role not in ("head", "-")]
        rows = set()
        for chosen in itertools.permutations(range(len(meaning[2])), len(own)):
            if all(meaning[2][at][0] == roles[part] for at, part in zip(chosen, own)):
                rest = tuple(pair for at, pair in enumerate(meaning[2]) if at not in chosen)
                row = [None] * len(roles)
                row[roles.index("head")] = (meaning[0], meaning[1], rest)
                for at, part in zip(chosen, own):
                    row[part] = meaning[2][at][1]
                rows.add(tuple(row))
        return sorted(rows, key=repr)

    def holes(self, meaning):
        return (meaning[:2] == ("", ())) + sum(self.holes(inner) for _, inner in meaning[2])

    def holed(self, meaning):
        """All (host, fill) of which this meaning is made by filling."""
        atom, marks, pairs = meaning
        for mask in itertools.product((True, False), repeat=len(pairs)):
            kept = tuple(pair for pair, flag in zip(pairs, mask) if flag)
            yield ("", (), kept), (atom, marks, tuple(pair for pair, flag in zip(pairs, mask) if not flag))
        for at, (role, inner) in enumerate(pairs):
            for host, fill in self.holed(inner):
                yield (atom, marks, tuple(sorted([*pairs[:at], (role, host), *pairs[at + 1:]]))), fill

    def over(self, number, rule, row, known):
        """The list of (tree, symbol) of a rule over parts of these meanings."""
        pools = []
        for (role, kind, _, _), meaning in zip(rule[4], row):
            if role == "-":
                pools.append([(tree, self.symbol(tree)[0]) for tree in self.word_trees() if self.symbol(tree)[0][0] == kind])
            else:
                pools.append(self.meant(kind, meaning, known))
            if not pools[-1]:
                return []
        found = []
        for chosen in itertools.product(*pools):
            whole = self.whole(rule, [symbol for _, symbol in chosen])
            trees = tuple(tree for tree, _ in chosen)
            unheard = [part for part, tree in enumerate(trees) if not self.words(tree)]
            for places in self.places(rule) if whole else []:
                if all(self.quiet(rule, places, part) == places for part in unheard):
                    found.append((("rule", number, places, trees), whole))
        return found

    def ways(self, meaning):
        found = [tree for symbol, trees in self.trees_meaning(meaning).items()
                 if symbol[0] == self.told["start"] and symbol[2] == () for tree in trees]
        return sorted(found, key=lambda tree: (self.cost(tree), tree))

    def sayings(self, meaning):
        least = {}
        for tree in self.ways(meaning):
            least.setdefault(tuple(self.words(tree)), self.cost(tree))
        return sorted((cost, words) for words, cost in least.items())

    # Half said.
    def rows_of(self, most):
        """The set of the rows of words of all sentences of at most so many words."""
        rows = {}
        for tree in [*self.word_trees(), *self.gap_trees()]:
            rows.setdefault(self.symbol(tree)[0], set()).add(tuple(self.words(tree)))
        found = sorted(self.grown()[1])
        many = -1
        while many != sum(len(known) for known in rows.values()):
            many = sum(len(known) for known in rows.values())
            for number, symbols, whole in found:
                for chosen in itertools.product(*[sorted(rows.get(symbol, ())) for symbol in symbols]):
                    if sum(len(words) for words in chosen) <= most:
                        rows.setdefault(whole, set()).update(self.rows_over(self.rules[number], chosen))
        return set().union(*[rows[symbol] for symbol in rows if symbol[0] == self.told["start"] and symbol[2] == ()])

    def rows_over(self, rule, chosen):
        unheard = [part for part, words in enumerate(chosen) if not words]
        for places in self.places(rule):
            if all(self.quiet(rule, places, part) == places for part in unheard):
                yield tuple(word for _, part in sorted((place, part) for part, place in enumerate(places))
                            for word in chosen[part])

    # Measures.
    def meanings_of(self, most):
        """The set of the meanings of all sentences of at most so many nodes."""
        found = {}
        for tree in [*self.word_trees(), *self.gap_trees()]:
            found.setdefault(self.symbol(tree)[0], set()).add(self.meaning(tree))
        rows = sorted(self.grown()[1])
        many = -1
        while many != sum(len(known) for known in found.values()):
            many = sum(len(known) for known in found.values())
            for number, symbols, whole in rows:
                roles = [part[0] for part in self.rules[number][4]]
                pools = [[None] if role == "-" else sorted(found.get(symbol, ())) for role, symbol in zip(roles, symbols)]
                for chosen in itertools.product(*pools):
                    meaning = self.meaning_over(roles, chosen)
                    if self.nodes(meaning) <= most:
                        found.setdefault(whole, set()).add(meaning)
        return set().union(*[found[symbol] for symbol in found if symbol[0] == self.told["start"] and symbol[2] == ()])

    def nodes(self, meaning):
        return 1 + sum(self.nodes(inner) for _, inner in meaning[2])
