"""Ways to prove a question: rules that are taken for open goals, as long as what is asked can be so."""

from proofsizes.answers import answer_to
from proofsizes.bindings import Bindings
from proofsizes.programs import own_pairs, relation_goals, relation_of, terms_in_goals
from proofsizes.terms import is_unknown, names_in, numbered
from proofsizes.terms import put_in_pairs, put_in_row, sides_of


class Ready:
    """What rules or questions ask, ready to be put in for an open goal."""

    def __init__(self, terms, goals):
        self.terms = terms
        self.asked = [(relation_of(goal), goal[1]) for goal in relation_goals(goals)]
        self.equals = own_pairs(goals, "equal")
        self.unlikes = own_pairs(goals, "unlike")
        self.names = names_in(list(terms) + terms_in_goals(goals))

    def is_general(self):
        """Whether a rule can be taken for all goals of its relation."""
        if self.equals or self.unlikes:
            return False
        return all([is_unknown(term) for term in self.terms]) and len(names_in(self.terms)) == len(self.terms)


class Goal:
    """An open goal: the number of its place in the proofs, and how many rules it stands within, and 1."""

    def __init__(self, node, level, relation, terms):
        self.node = node
        self.level = level
        self.relation = relation
        self.terms = terms


class Way:
    """Open goals, inequations that may fail still, and what was taken: places, rules, places within."""

    def __init__(self, goals, unlikes, taken, many):
        self.goals = goals
        self.unlikes = unlikes
        self.taken = taken
        self.many = many


class Ways:
    """The ways of a question by a program.

    What a way asks is bound while it is gone; another way is gone on with behind undo,
    to the mark at which it was left.
    """

    def __init__(self, program, question):
        self.rules = [Ready(rule.head[1], rule.goals) for rule in program.rules]
        self.numbers = {}
        for number, rule in enumerate(program.rules):
            self.numbers.setdefault(relation_of(rule.head), []).append(number)
        self.question = Ready(question.terms, question.goals)
        self.bindings = Bindings()
        self.fresh = 0
        self.terms = question.terms

    def unlike_names(self, names):
        """A dict from names to unknowns that were never used."""
        self.fresh += len(names)
        return numbered(names, self.fresh - len(names))

    def first(self):
        """The way of the question itself; None if its own goals can't be so."""
        self.bindings.undo(0)
        worth = self.unlike_names(self.question.names)
        self.terms = put_in_row(self.question.terms, worth)
        unlikes = self.left(self.question, worth, [], [])
        if unlikes is None:
            return None
        goals = goals_of(self.question, worth, 0, 1)
        return Way(goals, unlikes, (), len(goals))

    def behind(self, way, place, number):
        """The way behind a rule that is taken for an open goal; None if what is asked can't be so."""
        goal = way.goals[place]
        rule = self.rules[number]
        worth = self.unlike_names(rule.names)
        heads = list(zip(put_in_row(rule.terms, worth), goal.terms))
        unlikes = self.left(rule, worth, heads, way.unlikes)
        if unlikes is None:
            return None
        goals = goals_of(rule, worth, way.many, goal.level + 1)
        taken = (goal.node, number, tuple([inner.node for inner in goals]))
        others = way.goals[:place] + goals + way.goals[place + 1:]
        return Way(others, unlikes, way.taken + (taken,), way.many + len(goals))

    def left(self, ready, worth, pairs, unlikes):
        """The inequations that may fail still when more is asked; None if that can't be so."""
        if not self.bindings.make_same(pairs + put_in_pairs(ready.equals, worth)):
            return None
        return self.bindings.pending(unlikes + [[pair] for pair in put_in_pairs(ready.unlikes, worth)])

    def rules_for(self, goal):
        """The numbers of the rules that may be taken for a goal, as far as heads tell at a glance."""
        return [number for number in self.numbers.get(goal.relation, []) if self.may_take(goal, number)]

    def may_take(self, goal, number):
        """Whether a rule's head has no sign that is unlike the goal's."""
        return self.bindings.may_be_same(self.rules[number].terms, goal.terms)

    def narrowest(self, way):
        """The place of an open goal for which the fewest rules may be taken, and their numbers."""
        best = None
        for place, goal in enumerate(way.goals):
            numbers = self.rules_for(goal)
            if best is None or len(numbers) < len(best[1]):
                best = (place, numbers)
            if len(numbers) <= 1:
                break
        return best

    def answer_behind(self, way):
        """The Answer of a way, as if nothing were open."""
        pairs = sides_of([pair for pairs in way.unlikes for pair in pairs])
        terms = self.bindings.resolved(list(self.terms) + pairs, {})
        many = len(self.terms)
        inequations = [[(terms[at], terms[at + 1])] for at in range(many, len(terms), 2)]
        return answer_to(terms[:many], inequations)


def goals_of(ready, worth, node, level):
    """The tuple of open goals for the relation goals of a rule or a question."""
    rows = [(relation, put_in_row(terms, worth)) for relation, terms in ready.asked]
    return tuple([Goal(node + at, level, relation, terms) for at, (relation, terms) in enumerate(rows)])


def trees_of(way, many):
    """The proofs of a way without open goals, for a question with so many relation goals."""
    trees = {}
    # Rules were taken ahead of those within them, so these are built first.
    for node, number, inner in way.taken[::-1]:
        trees[node] = (number, tuple([trees[one] for one in inner]))
    return tuple([trees[node] for node in range(many)])
