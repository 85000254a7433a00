"""Rules, programs of them, and questions."""

from proofsizes.errors import BadQuestion, BadRule
from proofsizes.sharing import FEW_STEPS, are_same_rows
from proofsizes.terms import is_integer, is_name, is_pair, is_row, is_row_of_terms

MOST_TERMS = 6
MOST_GOALS = 6
MOST_RULES = 16
OWN_NAMES = ("equal", "unlike")


class Rule:
    """A head, and the goals that it follows from."""

    def __init__(self, head, goals):
        if not is_relation_goal(head):
            raise BadRule(None, "head")
        if not is_row_of_goals(goals):
            raise BadRule(None, "goals")
        self.head = kept_goal(head)
        self.goals = tuple([kept_goal(goal) for goal in goals])

    def __eq__(self, other):
        if not isinstance(other, Rule):
            return False
        return are_same_rows((self.head,) + self.goals, (other.head,) + other.goals, FEW_STEPS)


class Program:
    """A row of rules."""

    def __init__(self, rules):
        if not is_row(rules) or len(rules) > MOST_RULES:
            raise BadRule(None, "rules")
        for number, rule in enumerate(rules):
            if not isinstance(rule, Rule):
                raise BadRule(number, "rule")
        self.rules = tuple(rules)

    def __eq__(self, other):
        return isinstance(other, Program) and self.rules == other.rules


class Question:
    """Terms that are asked, and the goals that are to be so."""

    def __init__(self, terms, goals):
        if not is_row_of_terms(terms) or len(terms) > MOST_TERMS:
            raise BadQuestion("terms")
        if not is_row_of_goals(goals):
            raise BadQuestion("goals")
        self.terms = tuple(terms)
        self.goals = tuple([kept_goal(goal) for goal in goals])

    def __eq__(self, other):
        if not isinstance(other, Question):
            return False
        return are_same_rows(self.terms, other.terms, FEW_STEPS) and are_same_rows(self.goals, other.goals, FEW_STEPS)


def is_count(thing):
    """Whether a thing is an integer from 0 on."""
    return is_integer(thing) and thing >= 0


def check_count(thing, part):
    """Raises BadQuestion for what is no integer from 0 on."""
    if not is_count(thing):
        raise BadQuestion(part)


def is_relation_goal(thing):
    """Whether a thing is a goal of a relation."""
    if not isinstance(thing, tuple) or len(thing) != 2:
        return False
    if not is_name(thing[0]) or thing[0] in OWN_NAMES:
        return False
    return is_row_of_terms(thing[1]) and len(thing[1]) <= MOST_TERMS


def is_own_goal(thing):
    """Whether a thing is an equal or an unlike goal."""
    if not isinstance(thing, tuple) or len(thing) != 2:
        return False
    return isinstance(thing[0], str) and thing[0] in OWN_NAMES and is_pair(thing[1])


def is_row_of_goals(thing):
    """Whether a thing is a row of at most so many goals as are let."""
    if not is_row(thing) or len(thing) > MOST_GOALS:
        return False
    return all([is_relation_goal(goal) or is_own_goal(goal) for goal in thing])


def kept_goal(goal):
    """A goal with a tuple of terms."""
    return goal[0], tuple(goal[1])


def relation_of(goal):
    """The name of a goal's relation, and of how many terms it is."""
    return goal[0], len(goal[1])


def relation_goals(goals):
    """The list of those goals that are of relations."""
    return [goal for goal in goals if goal[0] not in OWN_NAMES]


def own_pairs(goals, word):
    """The pairs of the goals that are called equal, or unlike."""
    return [goal[1] for goal in goals if goal[0] == word]


def terms_in_goals(goals):
    """All terms of a row of goals."""
    return [term for goal in goals for term in goal[1]]


def all_goals(rule):
    """A rule's head and its goals in one row."""
    return (rule.head,) + rule.goals
