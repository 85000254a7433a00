"""Proofs: trees of rules, their size and levels, and the answer that they have."""

from proofsizes.errors import BadQuestion
from proofsizes.programs import relation_goals, relation_of
from proofsizes.terms import is_number_below
from proofsizes.ways import Ways


def proofs_size(proofs):
    """How many rules stand in proofs."""
    return len(numbers_in(proofs))


def proofs_levels(proofs):
    """How many rules stand within one another at most."""
    most = 0
    waiting = [(tree, 1) for tree in proofs]
    while waiting:
        (_, trees), level = waiting.pop()
        most = max(most, level)
        waiting.extend([(tree, level + 1) for tree in trees])
    return most


def answer_of(program, question, proofs):
    """The Answer that proofs of a question have; None if what they ask can't be so."""
    if not are_proofs(program, question, proofs):
        raise BadQuestion("proofs")
    ways = Ways(program, question)
    way = ways.first()
    for number in numbers_in(proofs):
        if way is not None:
            way = ways.behind(way, 0, number)
    return None if way is None else ways.answer_behind(way)


def trees_in(proofs):
    """The list of all trees in proofs, from the left, a tree ahead of those within it."""
    found = []
    waiting = list(proofs[::-1])
    while waiting:
        tree = waiting.pop()
        found.append(tree)
        waiting.extend(tree[1][::-1])
    return found


def numbers_in(proofs):
    """The numbers of all rules in proofs, from the left, a rule ahead of those in its trees."""
    return [number for number, _ in trees_in(proofs)]


def are_proofs(program, question, thing):
    """Whether a thing is a tuple with a tree for each relation goal of a question."""
    waiting = [(question.goals, thing)]
    while waiting:
        goals, trees = waiting.pop()
        asked = relation_goals(goals)
        if not isinstance(trees, tuple) or len(trees) != len(asked):
            return False
        for goal, tree in zip(asked, trees):
            if not is_rule_for(program, goal, tree):
                return False
            waiting.append((program.rules[tree[0]].goals, tree[1]))
    return True


def is_rule_for(program, goal, tree):
    """Whether a thing begins as a tree does, with a rule for a goal's relation."""
    if not isinstance(tree, tuple) or len(tree) != 2 or not is_number_below(tree[0], len(program.rules)):
        return False
    return relation_of(program.rules[tree[0]].head) == relation_of(goal)
