"""How many rows of integers keep bounds by which each name has a least and a greatest one."""

from proofsizes.gaps import Nearest, names_of_bounds, place_of


def ranges_of(bounds, places):
    """The dict from names to their least and greatest integers; None if there are endless many for a name."""
    names = names_of_bounds(bounds)
    sides = [None] + names
    above = Nearest(bounds, sides, places).sums_from(None)
    turned = [(other, one, number) for one, other, number in bounds]
    mirrored = {name: -place_of(name, places) for name in names}
    below = Nearest(turned, sides, mirrored).sums_from(None)
    if any([name not in above or name not in below for name in names]):
        return None
    return {name: (-above[name], below[name]) for name in names}


def counted(bounds, ranges, places, most):
    """How many rows of integers there are; some number above most if they are more than that.

    A name with one integer alone asks no more of others than their ranges tell.
    """
    free = {name: True for name in ranges if ranges[name][0] < ranges[name][1]}
    beside = {name: {} for name in free}
    for one, other, _ in bounds:
        if one in free and other in free:
            beside[one][other] = True
            beside[other][one] = True
    many = 1
    for group in groups_of(beside):
        if many <= most:
            inner = [bound for bound in bounds if bound[0] in group and bound[1] in group]
            many = many * Counting(inner, ranges, group, beside, places, most).counted()
    return many


def groups_of(beside):
    """The list of groups of names, dicts, of which none stands beside one of another group."""
    groups = []
    done = {}
    for start in beside:
        if start not in done:
            group = {start: True}
            waiting = [start]
            while waiting:
                asking = waiting.pop()
                for name in beside[asking]:
                    if name not in group:
                        group[name] = True
                        waiting.append(name)
            done.update(group)
            groups.append(group)
    return groups


class Counting:
    """Counts the rows of integers for a group of names, name by name.

    Of the names that have their integers those alone are kept that stand beside one without:
    what they ask of the others is all that is asked of these, and it can be met.
    """

    def __init__(self, bounds, ranges, group, beside, places, most):
        self.ranges = ranges
        self.beside = beside
        self.most = most
        self.rest = dict(group)
        edges = []
        for name in group:
            edges.extend([(name, None, ranges[name][1]), (None, name, -ranges[name][0])])
        self.nearest = Nearest(list(bounds) + edges, [None] + list(group), places)
        self.least = {}

    def counted(self):
        """How many rows there are, or some number above most."""
        kept = []
        rows = {(): 1}
        many = 1
        while self.rest and many <= self.most:
            name = self.following(kept)
            self.least[name] = self.nearest.sums_from(name)
            del self.rest[name]
            others = [one for one in kept + [name] if self.is_asked(one)]
            rows = self.behind(rows, kept, name, others)
            many = sum(list(rows.values()))
            kept = others
        return many

    def following(self, kept):
        """The name to go on with: one that leaves few to be kept, then one with few integers."""
        near = [name for one in kept for name in self.beside[one] if name in self.rest]
        keys = {}
        for name in near if near else list(self.rest):
            if name not in keys:
                keys[name] = self.key_of(name, kept)
        return min([(keys[name], name) for name in keys])[1]

    def key_of(self, name, kept):
        """How many names are kept behind one, and how many integers it has."""
        others = [one for one in kept if any([other in self.rest and other != name for other in self.beside[one]])]
        asked = any([other in self.rest for other in self.beside[name]])
        low, high = self.ranges[name]
        return (len(others) + (1 if asked else 0), high - low)

    def is_asked(self, name):
        """Whether a name stands beside one without an integer."""
        return any([other in self.rest for other in self.beside[name]])

    def behind(self, rows, kept, name, others):
        """How many rows there are for each row of the integers of others, when a name has its integers, too."""
        places = [at for at, one in enumerate(kept) if one in others]
        found = {}
        for row, ways in rows.items():
            low, high = self.range_behind(row, kept, name)
            start = tuple([row[at] for at in places])
            if name not in others:
                found[start] = found.get(start, 0) + ways * (high - low + 1)
                continue
            # There are more rows than asked for, if there are so many integers, so none needs to be told.
            for worth in range(low, min(high, low + max(0, self.most)) + 1):
                key = start + (worth,)
                found[key] = found.get(key, 0) + ways
        return found

    def range_behind(self, row, kept, name):
        """The least and the greatest integer of a name, when others have theirs."""
        low, high = self.ranges[name]
        for one, worth in zip(kept, row):
            low = max(low, worth - self.least[one][name])
            high = min(high, worth + self.least[name][one])
        return low, high
