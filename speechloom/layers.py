"""Layers: the unlike things that trees say, rows of words or meanings, by their sizes, from the smallest on."""

from speechloom.limits import is_within


class Layers:
    """Things by symbols and sizes, as far as the limits let them be; recipes as limits.py tells.

    teller tells of things: with_inner(tag, thing, inner), what comes of a part put to others; key_of(thing), what they
    are known by.
    """

    def __init__(self, most, limits, teller):
        self.most = most
        self.limits = limits
        self.teller = teller
        # By sizes: for each symbol a dict from the keys of things to the things.
        self.layers = [{} for size in range(most + 1)]
        self.fresh = []
        # Of steps that make something larger than each part: the wholes. Of the others, by a part's symbol: the
        # wholes that say the same; those of a host with (fill, whole), of a fill with (host, whole).
        self.growing = {}
        self.alike = {}
        self.hosts = {}
        self.fills = {}
        self.known = {}

    def learn(self, recipe):
        """Takes a recipe, if it is within the limits."""
        whole, steps, less = recipe
        if not is_within(self.limits, recipe):
            return
        first, last = steps[0][1], steps[-1][1]
        if len(steps) == 1:
            put_once(self.alike, first, whole)
        elif less == 0:
            put_once(self.growing, steps, whole)
        else:
            put_once(self.hosts, first, (last, whole))
            put_once(self.fills, last, (first, whole))

    def grow_all(self, leaves):
        """Makes all layers; leaves is a list of (symbol, thing) of the size 1."""
        for symbol, thing in leaves if self.most > 0 else []:
            self.put_thing(symbol, 1, thing)
        for size in range(1, self.most + 1):
            self.put_larger(size)
            self.put_filled(size)
            self.settle(size)

    def put_thing(self, symbol, size, thing):
        """Puts a thing into a layer, where the symbol may say one of that size."""
        if symbol not in self.limits or size > self.limits[symbol]:
            return
        things = self.layers[size].setdefault(symbol, {})
        key = self.teller.key_of(thing)
        if key not in things:
            things[key] = thing
            self.fresh.append((symbol, thing))

    def things_of(self, symbol, size):
        """The list of the things of this symbol and size."""
        things = self.layers[size].get(symbol, {})
        return [things[key] for key in things]

    def put_larger(self, size):
        """Puts what is made of several smaller things."""
        for steps in self.growing:
            wholes = [whole for whole in self.growing[steps] if size <= self.limits[whole]]
            for thing in self.made_by(steps, size) if wholes else []:
                for whole in wholes:
                    self.put_thing(whole, size, thing)

    def made_by(self, steps, size):
        """The list of the unlike things of this size that the steps make."""
        if len(steps) == 1:
            return self.things_of(steps[0][1], size)
        key = (steps, size)
        if key not in self.known:
            tag, symbol = steps[-1]
            found = {}
            for number in range(1, size - len(steps) + 2):
                inner = self.things_of(symbol, number)
                for thing in self.made_by(steps[:-1], size - number) if inner else []:
                    for more in inner:
                        whole = self.teller.with_inner(tag, thing, more)
                        found[self.teller.key_of(whole)] = whole
            self.known[key] = [found[name] for name in found]
        return self.known[key]

    def put_filled(self, size):
        """Puts what is made of a host and a fill that are both smaller."""
        for host in self.hosts:
            for fill, whole in self.hosts[host]:
                if size <= self.limits[whole]:
                    for number in range(2, size):
                        fills = self.things_of(fill, size + 1 - number)
                        self.fill_all(whole, size, self.things_of(host, number), fills)

    def fill_all(self, whole, size, hosts, fills):
        """Puts each of the fills into each of the hosts."""
        for host in hosts:
            for fill in fills:
                self.put_thing(whole, size, self.teller.with_inner("fill", host, fill))

    def settle(self, size):
        """Puts what is made of things of this very size: what says the same, or has one beside it of the size 1."""
        while self.fresh:
            symbol, thing = self.fresh.pop()
            for whole in self.alike.get(symbol, {}):
                self.put_thing(whole, size, thing)
            for fill, whole in self.hosts.get(symbol, {}):
                self.fill_all(whole, size, [thing], self.things_of(fill, 1))
            for host, whole in self.fills.get(symbol, {}):
                self.fill_all(whole, size, self.things_of(host, 1), [thing])


def put_once(rows, key, thing):
    """Puts a thing into the dict of those that stand under this key."""
    things = rows.setdefault(key, {})
    things[thing] = True
