"""How many rows of integers keep bounds by which each name has a least and a greatest one."""

from proofsizes.gaps import Nearest, names_of_bounds, place_of


def ranges_of(bounds, places):
    """The dict from names to their least and greatest integers; None if there are endless many for a name."""
    names = names_of_bounds(bounds)
    sides = [None] + names
    above = Nearest(bounds, sides, places).sums_from(None)
    turned = [(other, one, number) for one, other, number in bounds]
    mirrored = {name: -place_of(name, places) for name in names}
    below = Nearest(turned, sides, mirrored).sums_from(None)
    if any([name not in above or name not in below for name in names]):
        return None
    return {name: (-above[name], below[name]) for name in names}


def counted_rows(bounds, ranges, places, most):
    """How many rows of integers there are; some number above most if they are more than that.

    A name with one integer alone asks no more of others than their ranges tell.
    """
    free = {name: True for name in ranges if ranges[name][0] < ranges[name][1]}
    beside = {name: {} for name in free}
    for one, other, _ in bounds:
        if one in free and other in free:
            beside[one][other] = True
            beside[other][one] = True
    many = 1
    for group in groups_of(beside):
        if many <= most:
            inner = [bound for bound in bounds if bound[0] in group and bound[1] in group]
            many = many * Counting(inner, ranges, group, beside, places, most).counted()
    return many


def groups_of(beside):
    """The list of groups of names, dicts, of which none stands beside one of another group."""
    groups = []
    done = {}
    for start in beside:
        if start not in done:
            group = {start: True}
            waiting = [start]
            while waiting:
                asking = waiting.pop()
                for name in beside[asking]:
                    if name not in group:
                        group[name] = True
                        waiting.append(name)
            done.update(group)
            groups.append(group)
    return groups


class Counting:
    """Counts the rows of integers for a group of names, name by name.

    What the integers of some names ask of all others is told by the ranges that they leave to
    those beside them, the border. Each integer within these ranges stands in some row.
    """

    def __init__(self, bounds, ranges, group, beside, places, most):
        self.ranges = ranges
        self.beside = beside
        self.most = most
        ascending = sorted([(width_of(ranges[name]), name) for name in group])
        self.rest = {name: True for _, name in ascending}
        edges = []
        for name in group:
            edges.extend([(name, None, ranges[name][1]), (None, name, -ranges[name][0])])
        self.nearest = Nearest(list(bounds) + edges, [None] + list(group), places)
        self.least = {}

    def counted(self):
        """How many rows there are, or some number above most."""
        border = []
        rows = {(): 1}
        many = 1
        while self.rest and many <= self.most:
            name = self.following(border)
            del self.rest[name]
            behind = self.border_behind(border, name)
            rows = self.rows_behind(rows, border, name, behind)
            many = sum(list(rows.values()))
            border = behind
        return many

    def following(self, border):
        """The name to go on with: one of the border, or the one with the fewest integers, that leaves few rows."""
        near = border + list(self.rest)[:1]
        return min([(self.rows_with(border, name), name) for name in near])[1]

    def rows_with(self, border, name):
        """How many rows there may be to be gone through, if a name is the next one."""
        many = width_of(self.ranges[name]) if self.is_asked(name) else 1
        for other in self.border_behind(border, name):
            left = width_of(self.ranges[other])
            lets = 1
            for one in self.beside[other]:
                if (one == name or one not in self.rest) and lets < left:
                    lets = lets * width_of(self.ranges[one])
            many = many * min(left, lets)
        return many

    def is_asked(self, name):
        """Whether a name stands beside another one without an integer."""
        return any([other in self.rest for other in self.beside[name]])

    def border_behind(self, border, name):
        """The list of the names beside those that have integers, when a name has one, too."""
        others = [other for other in self.beside[name] if other in self.rest and other not in border]
        return [other for other in border if other != name] + others

    def rows_behind(self, rows, border, name, behind):
        """The dict from ranges left to a border to how many rows leave them, when a name has its integers."""
        found = {}
        for row, ways in rows.items():
            known = {other: left for other, left in zip(border, row)}
            low, high = self.left_to(name, known)
            if not self.is_asked(name):
                key = tuple([known[other] for other in behind])
                found[key] = found.get(key, 0) + ways * (high - low + 1)
                continue
            # If there are more integers than rows are asked for, so many are enough.
            for worth in range(low, min(high, low + max(0, self.most)) + 1):
                known[name] = (worth, worth)
                key = tuple([self.left_to(other, known) for other in behind])
                found[key] = found.get(key, 0) + ways
        return found

    def left_to(self, name, known):
        """The range that is left to a name by the ranges of others."""
        low, high = known.get(name, self.ranges[name])
        for other in known:
            if other != name:
                low = max(low, known[other][0] - self.gap(other, name))
                high = min(high, known[other][1] + self.gap(name, other))
        return low, high

    def gap(self, one, other):
        """The least number with which a bound between two names follows."""
        if one not in self.least:
            self.least[one] = self.nearest.sums_from(one)
        return self.least[one][other]


def width_of(ends):
    """How many integers a range has."""
    return ends[1] - ends[0] + 1
