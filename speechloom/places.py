"""Orders: the places at which a rule's parts may stand, and how far they stray from their numbers."""


def places_of(rule):
    """The rising list of the orders in which the parts may stand: tuples with a place for each part."""
    many = len(rule[4])
    stray, stir, ahead = rule[6]
    rows = [()]
    for number in range(many):
        near = [place for place in range(many) if abs(place - number) <= stray]
        rows = [(*row, place) for row in rows for place in near if place not in row]
    return [row for row in rows if all(row[one] < row[other] for one, other in ahead)]


def stir_of(rule, places):
    """The rule's stir for each place that a part stands away from its number."""
    return sum(stir_at(rule, number, place) for number, place in enumerate(places))


def stir_at(rule, part, place):
    """What one part at this place adds to the stir."""
    return rule[6][1] * abs(place - part)


def order_of(places):
    """The parts' numbers as a tuple, in the order in which they stand."""
    return tuple(sorted(range(len(places)), key=lambda part: places[part]))


def order_without(places, part):
    """The same without one of the parts."""
    return tuple(number for number in order_of(places) if number != part)


def quiet_places(rule, placings, part):
    """For each order of the other parts the places at which an unheard part stands.

    A part without words could stand at several places of one row of words: the one of least stir, then the least,
    is its own.
    """
    quiet = {}
    for places in placings:
        order = order_without(places, part)
        rank = (stir_of(rule, places), places)
        if order not in quiet or rank < quiet[order]:
            quiet[order] = rank
    return {order: quiet[order][1] for order in quiet}


def quiet_at(tongue, number, part):
    """What quiet_places tells of a tongue's rule and a part (numbers), worked out once."""
    key = ("quiet", number, part)
    if key not in tongue.kept:
        tongue.kept[key] = quiet_places(tongue.own["rules"][number], tongue.placings[number], part)
    return tongue.kept[key]


def placings_of(tongue, key):
    """The rising list of (stir, places) of a rule's parts, key being (rule, part without words or -1); made once."""
    name = ("placings", key)
    if name not in tongue.kept:
        number, unheard = key
        placings = tongue.placings[number]
        if unheard >= 0:
            quiet = quiet_at(tongue, number, unheard)
            placings = [quiet[order] for order in quiet]
        tongue.kept[name] = sorted([(stir_of(tongue.own["rules"][number], places), places) for places in placings])
    return tongue.kept[name]
