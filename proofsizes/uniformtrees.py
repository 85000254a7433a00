"""What trees of flat programs without equal and unlike goals prove."""

from proofsizes.programs import Question
from proofsizes.proofs import are_proofs, trees_in
from proofsizes.terms import is_unknown, matched


def proves(program, proof, fact):
    """Whether a thing is a tree of a program that proves a fact."""
    return are_proofs(program, Question([], [fact]), (proof,)) and fact_of_tree(program, proof) == fact


def fact_of_tree(program, proof):
    """The fact that a tree of a flat program without equal and unlike goals proves; None if it proves none."""
    built = []
    for number, trees in reversed(trees_in((proof,))):
        many = len(trees)
        inner = built[len(built) - many:][::-1]
        del built[len(built) - many:]
        built.append(None if None in inner else fact_of_rule(program.rules[number], inner))
    return built[0]


def fact_of_rule(rule, found):
    """The fact that a rule makes of a fact for each of its goals; None if these don't fit."""
    patterns = [term for goal in rule.goals for term in goal[1]]
    terms = [term for fact in found for term in fact[1]]
    if len(patterns) != len(terms):
        return None
    worth = matched(patterns, terms, {})
    if worth is None:
        return None
    return rule.head[0], tuple([worth[term[1]] if is_unknown(term) else term for term in rule.head[1]])
