"""Classes of equal ground terms, and the terms of a class."""

from proofsizes.linking import Linked
from proofsizes.terms import terms_key


class Classes(Linked):
    """Ground terms, and all within them, in the classes that equations make; leaders stand for classes.

    A class has ways: heads with classes of parts. Its terms are just those that are made so.
    """

    def __init__(self, equations, terms):
        Linked.__init__(self)
        for term in terms:
            self.number_of(term)
        for place, (one, other) in enumerate(equations):
            first, second = self.number_of(one), self.number_of(other)
            if self.leader(first) != self.leader(second):
                self.tie(first, second, ("given", (), place))
        while self.has_tied():
            pass
        self.ways = {}
        for number, inner in enumerate(self.inner):
            way = (self.heads[number], tuple([self.leader(part) for part in inner]))
            self.ways.setdefault(self.leader(number), {})[way] = True

    def has_tied(self):
        """Makes compounds the same whose parts are; whether there were such that weren't the same."""
        before = len(self.edges)
        known = {}
        for number, inner in enumerate(self.inner):
            key = (self.heads[number], tuple([self.leader(part) for part in inner]))
            other = known.setdefault(key, number)
            if self.leader(other) != self.leader(number):
                pairs = tuple(zip(self.inner[other], inner))
                self.tie(other, number, ("inside", pairs, self.heads[number][0]))
        return len(self.edges) > before

    def class_of(self, term):
        """The leader of the class of a term that stands in the classes."""
        return self.leader(self.number_of(term))

    def states(self):
        """The classes, numbered: dicts from constants, and from names with parts' numbers, to numbers."""
        numbers = {leader: number for number, leader in enumerate(self.ways)}
        constants, compounds = {}, {}
        for leader in self.ways:
            for (name, more), inner in self.ways[leader]:
                if inner:
                    compounds[name, tuple([numbers[part] for part in inner])] = numbers[leader]
                else:
                    constants[more] = numbers[leader]
        return constants, compounds

    def least_terms(self):
        """The dict from classes to their terms with the fewest signs, then the first ones."""
        found = {}
        keys = {}
        is_over = False
        while not is_over:
            is_over = True
            for leader in self.ways:
                for way in self.ways[leader]:
                    key, term = least_by(way, keys, found)
                    if key is not None and (leader not in keys or key < keys[leader]):
                        keys[leader], found[leader] = key, term
                        is_over = False
        return found

    def reached(self, start):
        """The list of the classes whose terms stand in terms of a class."""
        found = {start: True}
        waiting = [start]
        while waiting:
            asking = waiting.pop()
            for leader in [part for _, inner in self.ways[asking] for part in inner]:
                if leader not in found:
                    found[leader] = True
                    waiting.append(leader)
        return list(found)

    def terms_of_signs(self, start, signs):
        """The list of all terms of a class with so many signs."""
        leaders = self.reached(start)
        table = [{}]
        for many in range(1, signs):
            table.append({leader: self.made_of_signs(leader, many, table) for leader in leaders})
        return self.made_of_signs(start, signs, table)

    def made_of_signs(self, leader, signs, table):
        """The list of a class's terms with so many signs, by those of each smaller number of signs."""
        found = []
        for head, inner in self.ways[leader]:
            found.extend([made_term(head, row) for row in rows_of_signs(inner, signs - 1, table)])
        return found

    def are_endless(self, start):
        """Whether a class has endless many terms: whether it can stand within itself, or reaches one that can."""
        finite = {}
        before = -1
        while len(finite) > before:
            before = len(finite)
            for leader in self.ways:
                if all([part in finite for _, inner in self.ways[leader] for part in inner]):
                    finite[leader] = True
        return start not in finite


def made_term(head, inner):
    """The term with a head, as numbered terms have one, and parts."""
    return (head[0], inner) if inner else head[1]


def least_by(way, keys, found):
    """The key and the least term that a way makes of the least terms of the parts' classes; None without these."""
    head, inner = way
    if not all([leader in found for leader in inner]):
        return None, None
    term = made_term(head, tuple([found[leader] for leader in inner]))
    return (1 + sum([keys[leader][0] for leader in inner]), terms_key([term])), term


def rows_of_signs(inner, signs, table):
    """All rows of terms of some classes that have so many signs together, by the terms of each number of signs."""
    rows = [((), signs)]
    for at in range(len(inner)):
        others = len(inner) - at - 1
        longer = []
        for row, left in rows:
            for many in range(1 if others else max(1, left), left - others + 1):
                longer.extend([(row + (term,), left - many) for term in table[many][inner[at]]])
        rows = longer
    return [row for row, left in rows if left == 0]
