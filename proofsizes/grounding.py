"""Least proofs that ground terms are of relations of a shallow program, by facts about finitely many terms."""

from proofsizes.leastterms import least_of
from proofsizes.nodes import unlike_nodes
from proofsizes.shelves import Shelf
from proofsizes.terms import is_compound, is_unknown, names_in


class Grounding:
    """Ground terms with numbers: those that are asked, with all within them, and those that rounds of types met.

    If a rule asks for a term elsewhere, then one that a round met has all that it asks of that,
    by what the rounds ahead met; so a least proof within these terms is found, if there is one.
    """

    def __init__(self, program, rounds):
        self.rules = program.rules
        self.last = rounds[-1]
        self.numbers = {}
        self.heads = []
        self.inner = []
        self.masks = []
        self.met = []
        if any([asks_elsewhere(rule) for rule in program.rules]):
            for one in rounds:
                self.met.extend(self.numbers_of_least(one))
        self.sizes = {}
        self.proofs = {}

    def number_for(self, head, inner):
        """The number of a term with a head, ("", constant) or (name, number of parts), and numbered parts."""
        key = (head, inner)
        if key not in self.numbers:
            self.numbers[key] = len(self.heads)
            self.heads.append(head)
            self.inner.append(inner)
            self.masks.append(self.mask_for(head, inner))
        return self.numbers[key]

    def mask_for(self, head, inner):
        """The bits of a term's type."""
        if not inner:
            return self.last.constants.get(head[1], self.last.other)
        if head not in self.last.compounds:
            return self.last.other
        ways = (1 << len(self.last.compounds[head])) - 1
        for part, number in enumerate(inner):
            ways = ways & self.last.lets_at(head, part, self.masks[number])
        return self.last.made_by(head, ways)

    def number_of(self, term):
        """The number of a ground term."""
        numbers = {}
        root = Shelf().node_of(term)
        for node in unlike_nodes([root]):
            inner = tuple([numbers[part] for part in node.inner])
            numbers[node] = self.number_for((node.name, len(inner)) if inner else ("", node.name), inner)
        return numbers[root]

    def numbers_of_least(self, one):
        """The numbers of the least terms of all types of a round."""
        least = least_of(one.as_states())
        numbers = {}
        for state in least:
            inner = tuple([numbers[part] for part in least[state].inner])
            head = (least[state].name, len(inner)) if inner else ("", least[state].name)
            numbers[state] = self.number_for(head, inner)
        return [numbers[state] for state in numbers]

    def count_facts(self):
        """How many relations hold of the terms, all together."""
        return sum([len(self.last.labels_of(mask)) for mask in self.masks])

    def find_least(self):
        """Finds the least sizes of proofs of all facts, and the rule and the facts that give these."""
        is_over = False
        while not is_over:
            is_over = True
            for at, rule in enumerate(self.rules):
                elsewhere = self.least_elsewhere(rule)
                for number in range(len(self.heads)):
                    if self.has_lessened(at, rule, elsewhere, number):
                        is_over = False

    def least_elsewhere(self, rule):
        """For a rule's unknowns that aren't in its head the terms with the least proofs of what is asked of them."""
        inner = names_in(rule.head[1])
        found = {}
        for name in names_in([terms[0] for _, terms in rule.goals]):
            if name not in inner:
                labels = [label for label, terms in rule.goals if terms[0][1] == name]
                found[name] = self.least_with(labels)
        return found

    def least_with(self, labels):
        """The number of the met term with the least proofs that it is of some relations; None without any."""
        best = None
        for number in self.met:
            if all([(label, number) in self.sizes for label in labels]):
                size = sum([self.sizes[label, number] for label in labels])
                if best is None or size < best[0]:
                    best = (size, number)
        return None if best is None else best[1]

    def has_lessened(self, at, rule, elsewhere, number):
        """Notes a proof of a fact about a numbered term by a rule, if it is less than that which is known."""
        places = self.places_in(rule.head[1][0], number)
        if places is None:
            return False
        goals = [(label, places.get(terms[0][1], elsewhere.get(terms[0][1]))) for label, terms in rule.goals]
        if not all([goal in self.sizes for goal in goals]):
            return False
        fact = (rule.head[0], number)
        size = 1 + sum([self.sizes[goal] for goal in goals])
        if fact in self.sizes and self.sizes[fact] <= size:
            return False
        self.sizes[fact] = size
        self.proofs[fact] = (at, goals)
        return True

    def places_in(self, head, number):
        """The dict from the unknowns of a head to the numbers of terms by which it is a numbered term; or None."""
        if is_unknown(head):
            return {head[1]: number}
        if not is_compound(head):
            return {} if self.heads[number] == ("", head) else None
        if self.heads[number] != (head[0], len(head[1])):
            return None
        return {part[1]: inner for part, inner in zip(head[1], self.inner[number])}

    def size_of(self, label, number):
        """How many rules a least proof has that a numbered term is of a relation; None without any."""
        return self.sizes.get((label, number))

    def tree_of(self, label, number):
        """The least proof that a numbered term is of a relation."""
        built = {}
        waiting = [(label, number)]
        while waiting:
            fact = waiting[-1]
            at, goals = self.proofs[fact]
            ahead = [goal for goal in goals if goal not in built]
            if ahead:
                waiting.extend(ahead)
            else:
                built[fact] = (at, tuple([built[goal] for goal in goals]))
                waiting.pop()
        return built[label, number]


def asks_elsewhere(rule):
    """Whether a rule asks for an unknown that isn't in its head."""
    inner = names_in(rule.head[1])
    return any([terms[0][1] not in inner for _, terms in rule.goals])
