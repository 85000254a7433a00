"""Proofs: trees of rules, their size and levels, and the answer that they have."""

from proofsizes.composing import composed_answer
from proofsizes.errors import BadQuestion
from proofsizes.programs import relation_goals, relation_of
from proofsizes.sharing import MOST_STEPS, hide_truth_value, unlike_parts
from proofsizes.terms import as_tuple, is_number_below
from proofsizes.ways import Ways


# Proofs with more rules are gone through part by part, as they may share these.
MOST_STEP_BY_STEP = 1000


def proofs_size(proofs):
    """How many rules stand in proofs."""
    parts, numbers = unlike_parts([as_tuple(proofs)], MOST_STEPS)
    sizes = []
    for inner, _ in parts:
        within = [] if inner is None else [sizes[part] for part in inner]
        sizes.append(sum(within) + (1 if is_tree_shape(parts, inner) else 0))
    return sizes[numbers[0]]


def proofs_levels(proofs):
    """How many rules stand within one another at most."""
    parts, numbers = unlike_parts([as_tuple(proofs)], MOST_STEPS)
    levels = []
    for inner, _ in parts:
        within = [] if inner is None else [levels[part] for part in inner]
        levels.append(max([0] + within) + (1 if is_tree_shape(parts, inner) else 0))
    return levels[numbers[0]]


def is_tree_shape(parts, inner):
    """Whether a part of proofs begins with a number, as trees do, but not rows of trees."""
    return inner is not None and len(inner) > 0 and parts[inner[0]][0] is None


def answer_of(program, question, proofs):
    """The Answer that proofs of a question have; None if what they ask can't be so."""
    if not are_proofs(program, question, proofs):
        raise BadQuestion("proofs")
    return answer_with_size(program, question, proofs, proofs_size(proofs))


def answer_with_size(program, question, proofs, size):
    """The Answer that proofs with so many rules have; None if what they ask can't be so."""
    if size > MOST_STEP_BY_STEP:
        return composed_answer(program, question, proofs)
    ways = Ways(program, question)
    way = ways.first()
    for number in numbers_in(proofs):
        if way is not None:
            way = ways.behind(way, 0, number)
    return None if way is None else ways.answer_behind(way)


def trees_in(proofs):
    """The list of all trees in proofs, from the left, a tree ahead of those within it."""
    found = []
    waiting = list(proofs[::-1])
    while waiting:
        tree = waiting.pop()
        found.append(tree)
        waiting.extend(tree[1][::-1])
    return found


def numbers_in(proofs):
    """The numbers of all rules in proofs, from the left, a rule ahead of those in its trees."""
    return [number for number, _ in trees_in(proofs)]


def are_proofs(program, question, thing):
    """Whether a thing is a tuple with a tree for each relation goal of a question."""
    parts, numbers = unlike_parts([thing], MOST_STEPS)
    if hide_truth_value([thing], parts, numbers):
        return False
    relations = []
    for inner, _ in parts:
        relations.append(relation_of_part(program, parts, relations, inner))
    row = parts[numbers[0]][0]
    return row is not None and [relations[part] for part in row] == relations_asked(question.goals)


def relation_of_part(program, parts, relations, inner):
    """The relation of a tree of a program, by those of the trees in it; None for what is none."""
    if inner is None or len(inner) != 2:
        return None
    number = parts[inner[0]][1]
    row = parts[inner[1]][0]
    if row is None or not is_number_below(number, len(program.rules)):
        return None
    rule = program.rules[number]
    if [relations[part] for part in row] != relations_asked(rule.goals):
        return None
    return relation_of(rule.head)


def relations_asked(goals):
    """The list of the relations of those goals that are of relations."""
    return [relation_of(goal) for goal in relation_goals(goals)]
