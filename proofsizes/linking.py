"""Terms in classes of those that are the same, and the steps from equations to any two of a class."""

from proofsizes.nodes import terms_of, unlike_nodes
from proofsizes.shelves import Shelf


class Linked:
    """Terms, each with a number, in classes of those that are the same.

    Edges with reasons join the terms of a class into a tree, so there is one way between
    any two of them, and it stays when classes are made one. A reason is a word, the pairs
    of terms that it needs to be the same, and what else its step tells.
    """

    def __init__(self):
        self.shelf = Shelf()
        self.numbers = {}
        self.nodes = []
        self.heads = []
        self.inner = []
        self.leaders = []
        self.links = []
        self.edges = []

    def number_of(self, node):
        """The number of a term; terms that are the same as they stand have one number."""
        kept = self.shelf.copies_of([node])
        for part in unlike_nodes(kept):
            if part not in self.numbers:
                self.numbers[part] = len(self.nodes)
                self.leaders.append(len(self.nodes))
                self.nodes.append(part)
                self.heads.append(head_of(part))
                self.inner.append(tuple([self.numbers[one] for one in part.inner or ()]))
                self.links.append([])
        return self.numbers[kept[0]]

    def leader(self, number):
        """The leader of a term's class."""
        while self.leaders[number] != number:
            self.leaders[number] = self.leaders[self.leaders[number]]
            number = self.leaders[number]
        return number

    def tie(self, one, other, reason):
        """Makes the classes of two terms one; the first one's leader leads it."""
        self.links[one].append((other, len(self.edges)))
        self.links[other].append((one, len(self.edges)))
        self.edges.append((one, other, reason))
        self.leaders[self.leader(other)] = self.leader(one)

    def path(self, one, other):
        """The edges between two terms of a class, each with whether it is gone forward."""
        came = {one: None}
        waiting = [one]
        while other not in came:
            at = waiting.pop()
            for number, edge in self.links[at]:
                if number not in came:
                    came[number] = (at, edge)
                    waiting.append(number)
        found = []
        while other != one:
            at, edge = came[other]
            found.append((edge, self.edges[edge][0] == at))
            other = at
        return found[::-1]


def head_of(node):
    """A compound's name and number of parts, or "" and a constant; None of an unknown."""
    if node.inner is None:
        return None
    return (node.name, len(node.inner)) if node.inner else ("", node.name)


class Paper:
    """The steps that lead to equations of terms in one class, none that isn't needed."""

    def __init__(self, linked):
        self.linked = linked
        self.steps = []
        self.known = {}
        self.turned = {}
        self.same = {}

    def prepare(self, pairs):
        """Writes the steps for all edges between pairs of terms of one class."""
        for edge in self.needed_edges(pairs):
            word, asked, more = self.linked.edges[edge][2]
            numbers = [self.step_for(one, other) for one, other in asked]
            self.known[edge] = self.write(step_of(word, numbers, more))

    def needed_edges(self, pairs):
        """The edges between pairs of terms, and those for their reasons, as they were made."""
        needed = {}
        waiting = list(pairs)
        while waiting:
            one, other = waiting.pop()
            for edge, _ in self.linked.path(one, other):
                if edge not in needed:
                    needed[edge] = True
                    waiting.extend(self.linked.edges[edge][2][1])
        return sorted(needed)

    def write(self, step):
        """Writes a step; its number."""
        self.steps.append(step)
        return len(self.steps) - 1

    def turn(self, number):
        """The number of a step, turned round."""
        if number not in self.turned:
            self.turned[number] = self.write(("turned", number))
        return self.turned[number]

    def step_for(self, one, other):
        """The number of a step to the equation of two terms, whose edges have their steps."""
        if one == other:
            return self.same_step(one)
        last = None
        for edge, is_forward in self.linked.path(one, other):
            number = self.known[edge] if is_forward else self.turn(self.known[edge])
            last = number if last is None else self.write(("joined", last, number))
        return last

    def same_step(self, one):
        """The number of a step to the equation of a term and itself."""
        if one not in self.same:
            self.same[one] = self.write(("same", terms_of([self.linked.nodes[one]])[0]))
        return self.same[one]


def step_of(word, numbers, more):
    """The step for a reason, with the numbers of the steps to the pairs that it needs."""
    if word == "given":
        return word, more
    return (word, numbers[0], more) if word == "part" else (word, more, tuple(numbers))
