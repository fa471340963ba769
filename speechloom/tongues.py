"""Tongues: what is told of one, looked through once, and kept as an own copy."""

from speechloom.errors import BadTongue
from speechloom.parts import is_ending, is_feature, is_kind, is_rule, is_seam, is_stem
from speechloom.places import places_of


class Tongue:
    """A sound tongue. Its fields are read by this package alone, and what they hold is never changed:

    own: the dict as told; feature_named, kind_named: dicts by names; placings: for each rule its places_of;
    kept: what was worked out of the tongue once and may be asked again.
    """

    def __init__(self, told):
        self.own = copied(told)
        why = fault_in(self.own)
        if why is not None:
            raise BadTongue(why)
        self.feature_named = {feature[0]: feature for feature in self.own["features"]}
        self.kind_named = {kind[0]: kind for kind in self.own["kinds"]}
        self.placings = [places_of(rule) for rule in self.own["rules"]]
        self.kept = {}

    def features(self):
        """The list of features."""
        return copied(self.own["features"])

    def kinds(self):
        """The list of kinds."""
        return copied(self.own["kinds"])

    def seams(self):
        """The list of seams."""
        return copied(self.own["seams"])

    def stems(self):
        """The list of stems."""
        return copied(self.own["stems"])

    def endings(self):
        """The list of endings."""
        return copied(self.own["endings"])

    def rules(self):
        """The list of rules."""
        return copied(self.own["rules"])

    def start(self):
        """The name of the kind of sentences."""
        return self.own["start"]

    def told(self):
        """A dict as it was handed in."""
        return copied(self.own)


def copied(thing):
    """The thing, with new lists and dicts in all depths."""
    if isinstance(thing, dict):
        return {name: copied(thing[name]) for name in thing}
    if isinstance(thing, list):
        return [copied(inner) for inner in thing]
    if isinstance(thing, tuple):
        return tuple(copied(inner) for inner in thing)
    return thing


def fault_in(told):
    """The pair (word, number) of the first thing in the told dict that isn't sound, or None."""
    features = {feature[0]: feature[1] for feature in told["features"]}
    kinds = {kind[0]: kind for kind in told["kinds"]}
    # Each list is looked through only where all ahead of it are sound, so its things may rely on those.
    looks = [
        ("feature", told["features"], 6, is_feature),
        ("kind", told["kinds"], 12, lambda kind: is_kind(kind, features)),
        ("seam", told["seams"], 12, is_seam),
        ("stem", told["stems"], 40, lambda stem: is_stem(stem, features, kinds)),
        ("ending", told["endings"], 40, lambda ending: is_ending(ending, features)),
        ("rule", told["rules"], 30, lambda rule: is_rule(rule, features, kinds)),
    ]
    for word, things, most, is_sound in looks:
        number = first_unsound(things, most, is_sound, word in ("feature", "kind", "rule"))
        if number >= 0:
            return (word, number)
    if told["start"] not in kinds or kinds[told["start"]][3]:
        return ("start", 0)
    number = first_in_ring(told["rules"])
    return ("ring", number) if number >= 0 else None


def first_unsound(things, most, is_sound, is_named):
    """The number of the first thing that isn't sound, is beyond the most, or has the name of one ahead; else -1."""
    names = {}
    for number, thing in enumerate(things):
        if number >= most or not is_sound(thing) or (is_named and thing[0] in names):
            return number
        if is_named:
            names[thing[0]] = True
    return -1


def led_by(rule):
    """The kind to which the rule leads from its own without taking a pair or an atom of a meaning, or None."""
    roles = [part[0] for part in rule[4]]
    if "fill" in roles:
        return rule[4][roles.index("fill")][1]
    if all(role in ("head", "-") for role in roles):
        return rule[4][roles.index("head")][1]
    return None


def first_in_ring(rules):
    """The least number of a rule by which a kind is led to itself, or -1."""
    steps = [(rule[2], led_by(rule)) for rule in rules]
    for number, (origin, goal) in enumerate(steps):
        if goal is not None and origin in kinds_led_from(goal, steps):
            return number
    return -1


def kinds_led_from(kind, steps):
    """The list of this kind and all to which one is led from it."""
    reached = [kind]
    at = 0
    while at < len(reached):
        here = reached[at]
        reached.extend([goal for origin, goal in steps if origin == here and goal is not None])
        reached = without_doubles(reached)
        at += 1
    return reached


def without_doubles(names):
    """The names in their order, each once."""
    return list({name: True for name in names})
