"""Which labels ground terms have together, where constants and compounds get them by those of their parts.

Labels that a term has together are kept as bits of an integer.
"""

from proofsizes.errors import TooLarge
from proofsizes.states import MOST_STATES, States, power, rows_of

MOST_ROWS = 5000
# So many ways that parts let come of far more rows of types than may be.
FAR_TOO_MANY = 50000


class Clause:
    """A way to a label: for a constant, ("", constant); for compounds, (name, number of parts); for all terms, None.

    It asks labels of each part, of all terms of the one part that is the term itself; and of
    terms elsewhere, each of which is to have some labels together.
    """

    def __init__(self, label, key, parts, elsewhere):
        self.label = label
        self.key = key
        self.parts = parts
        self.elsewhere = elsewhere


class Round:
    """The labels that ground terms have, if terms elsewhere have those that were met before."""

    def __init__(self, clauses, before):
        self.labels = sorted(set([clause.label for clause in clauses]))
        self.bits = {label: 1 << at for at, label in enumerate(self.labels)}
        self.own = []
        self.constants = {}
        self.compounds = {}
        for clause in clauses:
            self.take(clause, before)
        self.other = self.with_own(0)
        for constant in list(self.constants):
            self.constants[constant] = self.with_own(self.constants[constant])
        self.met = sorted(self.all_met(), key=self.labels_of)

    def mask_of(self, labels):
        """The bits of labels; what has no way to it has a bit that no term has."""
        mask = 0
        for label in labels:
            mask |= self.bits.get(label, 1 << len(self.labels))
        return mask

    def labels_of(self, mask):
        """The ascending tuple of the labels of bits."""
        return tuple([label for at, label in enumerate(self.labels) if mask >> at & 1])

    def take(self, clause, before):
        """Takes a clause, if what it asks elsewhere was met before; what it speaks of is noted in any case."""
        asked = [self.mask_of(labels) for labels in clause.elsewhere]
        is_let = all([any([mask & met == mask for met in before]) for mask in asked])
        bit = self.bits[clause.label]
        needs = [self.mask_of(labels) for labels in clause.parts]
        if clause.key is None:
            if is_let:
                self.own.append((needs[0], bit))
        elif clause.key[0] == "":
            constant = clause.key[1]
            self.constants[constant] = self.constants.get(constant, 0) | (bit if is_let else 0)
        else:
            ways = self.compounds.setdefault(clause.key, [])
            if is_let:
                ways.append((needs, bit))

    def with_own(self, mask):
        """The bits of a term that has some by its head."""
        before = None
        while before != mask:
            before = mask
            for need, bit in self.own:
                if mask & need == need:
                    mask |= bit
        return mask

    def lets_at(self, key, part, mask):
        """Bits for the ways of a compound that a part's labels let."""
        found = 0
        for at, (needs, _) in enumerate(self.compounds[key]):
            if mask & needs[part] == needs[part]:
                found |= 1 << at
        return found

    def made_by(self, key, lets):
        """The bits that a compound has by the ways that all its parts let."""
        mask = 0
        for at, (_, bit) in enumerate(self.compounds[key]):
            if lets >> at & 1:
                mask |= bit
        return self.with_own(mask)

    def all_met(self):
        """The list of all bits that ground terms have."""
        found = {mask: True for mask in [self.other] + list(self.constants.values())}
        before = 0
        while len(found) > before:
            before = len(found)
            for key in self.compounds:
                masks = self.made_of_any(key, list(found))
                for mask in masks:
                    found[mask] = True
        return list(found)

    def made_of_any(self, key, masks):
        """The list of all bits that a compound has whose parts have some of these."""
        rows = {(1 << len(self.compounds[key])) - 1: True}
        for part in range(key[1]):
            lets = {self.lets_at(key, part, mask): True for mask in masks}
            rows = {one & other: True for one in rows for other in lets}
            if len(rows) > FAR_TOO_MANY:
                raise TooLarge(power(len(masks), key[1]))
        return [self.made_by(key, one) for one in rows]

    def check_size(self):
        """Raises TooLarge for too many types, or rows of them for a compound."""
        if len(self.met) > MOST_STATES:
            raise TooLarge(len(self.met))
        for _, parts in sorted(self.compounds):
            rows = power(len(self.met), parts)
            if rows > MOST_ROWS:
                raise TooLarge(rows)

    def types_met(self):
        """The ascending tuple of the tuples of labels that ground terms have together."""
        return tuple([self.labels_of(mask) for mask in self.met])

    def as_states(self):
        """The states of all ground terms, which are the numbers of what they have together."""
        numbers = {mask: at for at, mask in enumerate(self.met)}
        constants = {constant: numbers[self.constants[constant]] for constant in self.constants}
        compounds = {key: self.table(key, numbers) for key in sorted(self.compounds)}
        other = numbers[self.other]
        return States(len(self.met), constants, other, compounds, other)

    def table(self, key, numbers):
        """The dict from all rows of parts' states to a compound's state."""
        lets = [[self.lets_at(key, part, mask) for mask in self.met] for part in range(key[1])]
        made = {}
        table = {}
        for row in rows_of(list(range(len(self.met))), key[1]):
            ways = (1 << len(self.compounds[key])) - 1
            for part, state in enumerate(row):
                ways = ways & lets[part][state]
            if ways not in made:
                made[ways] = numbers[self.made_by(key, ways)]
            table[row] = made[ways]
        return table


def rounds_of(clauses):
    """The list of rounds, each of which goes on with what was met in the one ahead, until nothing else is met."""
    rounds = []
    met = []
    is_over = False
    while not is_over:
        found = Round(clauses, met)
        found.check_size()
        rounds.append(found)
        is_over = found.met == met
        met = found.met
    return rounds
