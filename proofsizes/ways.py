"""Ways to prove a question: rules that are taken for open goals, as long as what is asked can be so."""

from proofsizes.bindings import Bindings
from proofsizes.meeting import resolved_answer
from proofsizes.nodes import names_in, open_nodes, rebuilt, unknown_node
from proofsizes.programs import own_pairs, relation_goals, relation_of
from proofsizes.shelves import Shelf
from proofsizes.terms import sides_of


class Ready:
    """What rules or questions ask, ready to be put in for an open goal."""

    def __init__(self, terms, goals):
        shelf = Shelf()
        self.terms = shelf.nodes_of(terms)
        self.asked = [(relation_of(goal), shelf.nodes_of(goal[1])) for goal in relation_goals(goals)]
        self.equals = shelf.pairs_of(own_pairs(goals, "equal"))
        self.unlikes = shelf.pairs_of(own_pairs(goals, "unlike"))
        standing = self.terms + [node for _, nodes in self.asked for node in nodes]
        self.open_parts = open_nodes(standing + sides_of(self.equals + self.unlikes))
        self.names = [node.name for node in self.open_parts if node.inner is None]

    def is_general(self):
        """Whether a rule can be taken for all goals of its relation."""
        if self.equals or self.unlikes:
            return False
        are_unknown = all([node.inner is None for node in self.terms])
        return are_unknown and len(names_in(self.terms)) == len(self.terms)

    def with_unknowns(self, first):
        """It with unknowns that are named by integers, from a first one on."""
        built = {}
        for node in self.open_parts:
            if node.inner is None:
                built[node] = unknown_node(first)
                first += 1
            else:
                built[node] = rebuilt(node, built)
        return Used(self, built)


class Used:
    """What a rule or a question asks, with unknowns of its own."""

    def __init__(self, ready, built):
        self.ready = ready
        self.built = built

    def head_terms(self):
        """The list of the head's terms, or of those that are asked."""
        return self.placed(self.ready.terms)

    def goals_asked(self):
        """The list of pairs of a relation and the terms of a relation goal."""
        return [(relation, self.placed(nodes)) for relation, nodes in self.ready.asked]

    def pairs_equal(self):
        """The list of the pairs that are to be the same."""
        return [tuple(self.placed(pair)) for pair in self.ready.equals]

    def pairs_unlike(self):
        """The list of inequations, of a pair each."""
        return [[tuple(self.placed(pair))] for pair in self.ready.unlikes]

    def placed(self, nodes):
        """The list of some of its terms, with these unknowns."""
        return [self.built.get(node, node) for node in nodes]


class Goal:
    """An open goal: the number of its place in the proofs, and how many rules it stands within, and 1."""

    def __init__(self, node, level, relation, terms):
        self.node = node
        self.level = level
        self.relation = relation
        self.terms = terms


class Way:
    """Open goals, inequations that may fail still, and what was taken: places, rules, places within."""

    def __init__(self, goals, unlikes, taken, many):
        self.goals = goals
        self.unlikes = unlikes
        self.taken = taken
        self.many = many


class Ways:
    """The ways of a question by a program.

    What a way asks is bound while it is gone; another way is gone on with behind undo,
    to the mark at which it was left.
    """

    def __init__(self, program, question):
        self.rules = [Ready(rule.head[1], rule.goals) for rule in program.rules]
        self.numbers = {}
        for number, rule in enumerate(program.rules):
            self.numbers.setdefault(relation_of(rule.head), []).append(number)
        self.question = Ready(question.terms, question.goals)
        self.bindings = Bindings()
        self.fresh = 0
        self.terms = self.question.terms

    def with_fresh(self, ready):
        """What a rule or the question asks, with unknowns that were never used."""
        self.fresh += len(ready.names)
        return ready.with_unknowns(self.fresh - len(ready.names))

    def first(self):
        """The way of the question itself; None if its own goals can't be so."""
        self.bindings.undo(0)
        used = self.with_fresh(self.question)
        self.terms = used.head_terms()
        unlikes = self.left(used, [], [])
        if unlikes is None:
            return None
        goals = goals_of(used, 0, 1)
        return Way(goals, unlikes, (), len(goals))

    def behind(self, way, place, number):
        """The way behind a rule that is taken for an open goal; None if what is asked can't be so."""
        goal = way.goals[place]
        used = self.with_fresh(self.rules[number])
        unlikes = self.left(used, list(zip(used.head_terms(), goal.terms)), way.unlikes)
        if unlikes is None:
            return None
        goals = goals_of(used, way.many, goal.level + 1)
        taken = (goal.node, number, tuple([inner.node for inner in goals]))
        others = way.goals[:place] + goals + way.goals[place + 1:]
        return Way(others, unlikes, way.taken + (taken,), way.many + len(goals))

    def left(self, used, pairs, unlikes):
        """The inequations that may fail still when more is asked; None if that can't be so."""
        if not self.bindings.make_same(pairs + used.pairs_equal()):
            return None
        return self.bindings.pending(unlikes + used.pairs_unlike())

    def rules_for(self, goal):
        """The numbers of the rules that may be taken for a goal, as far as heads tell at a glance."""
        return [number for number in self.numbers.get(goal.relation, []) if self.may_take(goal, number)]

    def may_take(self, goal, number):
        """Whether a rule's head has no sign that is unlike the goal's."""
        return self.bindings.may_be_same(self.rules[number].terms, goal.terms)

    def narrowest(self, way):
        """The place of an open goal for which the fewest rules may be taken, and their numbers."""
        best = None
        for place, goal in enumerate(way.goals):
            numbers = self.rules_for(goal)
            if best is None or len(numbers) < len(best[1]):
                best = (place, numbers)
            if len(numbers) <= 1:
                break
        return best

    def answer_behind(self, way):
        """The Answer of a way, as if nothing were open."""
        return resolved_answer(self.bindings, self.terms, way.unlikes)


def goals_of(used, node, level):
    """The tuple of open goals for the relation goals of a rule or a question."""
    return tuple([Goal(node + at, level, relation, terms) for at, (relation, terms) in enumerate(used.goals_asked())])


def trees_of(way, many):
    """The proofs of a way without open goals, for a question with so many relation goals."""
    trees = {}
    # Rules were taken ahead of those within them, so these are built first.
    for node, number, inner in way.taken[::-1]:
        trees[node] = (number, tuple([trees[one] for one in inner]))
    return tuple([trees[node] for node in range(many)])
