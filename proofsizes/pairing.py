"""Two kinds of states of ground terms side by side: which pairs of them terms have, and a term of each."""

from proofsizes.leastterms import constants_told
from proofsizes.states import States, rows_of


class Narrowing:
    """A table, read part by part: what is left of it behind some parts' states has a number at each level.

    Rows of states that leave the same have one number, so there are few of them mostly.
    """

    def __init__(self, table, parts, many):
        row = [table[key] for key in rows_of(list(range(many)), parts)]
        levels = []
        for _ in range(parts):
            numbers = {}
            ahead = []
            for at in range(0, len(row), many):
                ahead.append(numbers.setdefault(tuple(row[at:at + many]), len(numbers)))
            levels.append(list(numbers))
            row = ahead
        self.levels = levels[::-1]

    def behind(self, part, number, state):
        """The number of what is left behind a part's state; behind the last one it is the compound's state."""
        return self.levels[part][number][state]


class Always:
    """A table that leads to one state, whatever the parts' states are."""

    def __init__(self, parts, end):
        self.last = parts - 1
        self.end = end

    def behind(self, part, number, _):
        """The number of what is left, or the state behind the last part."""
        return self.end if part == self.last else number


def narrowing_for(states, key):
    """What narrows the table for a compound."""
    if key in states.compounds:
        return Narrowing(states.compounds[key], key[1], states.many)
    return Always(key[1], states.beyond)


class Pairs:
    """The pairs of two kinds of states that ground terms have, each with such a term."""

    def __init__(self, one, other):
        self.one = one
        self.other = other
        self.constants = {}
        for constant in list(one.constants) + list(other.constants):
            self.constants[constant] = (one.of_constant(constant), other.of_constant(constant))
        self.beyond = (one.other, other.other)
        self.keys_told = sorted(set(list(one.compounds) + list(other.compounds)))
        self.terms = self.first_terms()
        tables = [(key[0], key[1], narrowing_for(one, key), narrowing_for(other, key)) for key in self.keys_told]
        before = 0
        while before < len(self.terms):
            before = len(self.terms)
            for name, parts, first, second in tables:
                made = self.made_of_any(parts, first, second)
                for pair, row in made:
                    if pair not in self.terms:
                        self.terms[pair] = (name, tuple([self.terms[inner] for inner in row]))

    def of_compound(self, name, inner):
        """The pair of a compound, by those of its parts."""
        first = self.one.of_compound(name, tuple([pair[0] for pair in inner]))
        return first, self.other.of_compound(name, tuple([pair[1] for pair in inner]))

    def first_terms(self):
        """The dict from the pairs that constants have to these."""
        states = States(0, self.constants, self.beyond, {}, None)
        constants = constants_told(states)
        return {constants[constant]: constant for constant in reversed(list(constants))}

    def made_of_any(self, parts, first, second):
        """Pairs of a compound, as two tables tell them, each with a row of pairs that its parts may have."""
        rows = {(0, 0): ()}
        for part in range(parts):
            longer = {}
            for (one, other), row in rows.items():
                for pair in self.terms:
                    ends = (first.behind(part, one, pair[0]), second.behind(part, other, pair[1]))
                    if ends not in longer:
                        longer[ends] = row + (pair,)
            rows = longer
        return list(rows.items())
