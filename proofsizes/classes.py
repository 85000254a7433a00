"""Classes of equal ground terms, and the terms of a class."""

from proofsizes.linking import Linked
from proofsizes.ordering import is_below


class Classes(Linked):
    """Ground terms, and all within them, in the classes that equations make; leaders stand for classes.

    A class has ways: heads with classes of parts. Its terms are just those that are made so.
    """

    def __init__(self, equations, terms):
        Linked.__init__(self)
        for term in terms:
            self.number_of(term)
        for place, (one, other) in enumerate(equations):
            first, second = self.number_of(one), self.number_of(other)
            if self.leader(first) != self.leader(second):
                self.tie(first, second, ("given", (), place))
        while self.has_tied():
            pass
        self.ways = {}
        for number, inner in enumerate(self.inner):
            way = (self.heads[number], tuple([self.leader(part) for part in inner]))
            self.ways.setdefault(self.leader(number), {})[way] = True

    def has_tied(self):
        """Makes compounds the same whose parts are; whether there were such that weren't the same."""
        before = len(self.edges)
        known = {}
        for number, inner in enumerate(self.inner):
            key = (self.heads[number], tuple([self.leader(part) for part in inner]))
            other = known.setdefault(key, number)
            if self.leader(other) != self.leader(number):
                pairs = tuple(zip(self.inner[other], inner))
                self.tie(other, number, ("inside", pairs, self.heads[number][0]))
        return len(self.edges) > before

    def states(self):
        """The classes, numbered: dicts from constants, and from names with parts' numbers, to numbers."""
        numbers = {leader: number for number, leader in enumerate(self.ways)}
        constants, compounds = {}, {}
        for leader in self.ways:
            for (name, more), inner in self.ways[leader]:
                if inner:
                    compounds[name, tuple([numbers[part] for part in inner])] = numbers[leader]
                else:
                    constants[more] = numbers[leader]
        return constants, compounds

    def least_terms(self):
        """The dict from classes to their terms with the fewest signs, then the first ones."""
        found = {}
        signs = {}
        is_over = False
        while not is_over:
            is_over = True
            for leader in self.ways:
                for head, inner in self.ways[leader]:
                    if all([part in found for part in inner]):
                        many = 1 + sum([signs[part] for part in inner])
                        node = self.made_term(head, tuple([found[part] for part in inner]))
                        if leader not in found or is_less(many, node, signs[leader], found[leader]):
                            signs[leader], found[leader] = many, node
                            is_over = False
        return found

    def made_term(self, head, inner):
        """The term with a head, as numbered terms have one, and parts."""
        return self.shelf.node_for(head[0] if inner else head[1], inner)

    def reached(self, start):
        """The list of the classes whose terms stand in terms of a class."""
        found = {start: True}
        waiting = [start]
        while waiting:
            asking = waiting.pop()
            for leader in [part for _, inner in self.ways[asking] for part in inner]:
                if leader not in found:
                    found[leader] = True
                    waiting.append(leader)
        return list(found)

    def terms_of_signs(self, start, signs):
        """The list of all terms of a class with so many signs."""
        leaders = self.reached(start)
        table = [{}]
        for many in range(1, signs):
            table.append({leader: self.made_of_signs(leader, many, table) for leader in leaders})
        return self.made_of_signs(start, signs, table)

    def made_of_signs(self, leader, signs, table):
        """The list of a class's terms with so many signs, by those of each smaller number of signs."""
        found = []
        for head, inner in self.ways[leader]:
            found.extend([self.made_term(head, row) for row in rows_of_signs(inner, signs - 1, table)])
        return found

    def are_endless(self, start):
        """Whether a class has endless many terms: whether it can stand within itself, or reaches one that can."""
        finite = {}
        before = -1
        while len(finite) > before:
            before = len(finite)
            for leader in self.ways:
                if all([part in finite for _, inner in self.ways[leader] for part in inner]):
                    finite[leader] = True
        return start not in finite


def is_less(many, node, least, other):
    """Whether a term with a number of signs comes ahead of another one with another number."""
    return many < least or many == least and is_below([node], [other])


def rows_of_signs(inner, signs, table):
    """All rows of terms of some classes that have so many signs together, by the terms of each number of signs."""
    rows = [((), signs)]
    for at in range(len(inner)):
        others = len(inner) - at - 1
        longer = []
        for row, left in rows:
            for many in range(1 if others else max(1, left), left - others + 1):
                longer.extend([(row + (term,), left - many) for term in table[many][inner[at]]])
        rows = longer
    return [row for row, left in rows if left == 0]
