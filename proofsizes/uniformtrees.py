"""What trees of flat programs without equal and unlike goals prove."""

from proofsizes.programs import relation_of, terms_in_goals
from proofsizes.sharing import MOST_STEPS, hide_truth_value, unlike_parts
from proofsizes.terms import is_number_below, is_unknown


def proves(program, proof, fact):
    """Whether a thing is a tree of a program that proves a fact."""
    parts, numbers = unlike_parts([proof], MOST_STEPS)
    if hide_truth_value([proof], parts, numbers):
        return False
    found = []
    for inner, _ in parts:
        found.append(None if inner is None else fact_of_part(program, parts, found, inner))
    return found[numbers[0]] == fact


def fact_of_part(program, parts, found, inner):
    """The fact that a tuple of numbered parts proves, by what those ahead prove; None if it proves none."""
    if len(inner) != 2:
        return None
    number = parts[inner[0]][1]
    row = parts[inner[1]][0]
    if row is None or not is_number_below(number, len(program.rules)):
        return None
    return fact_of_rule(program.rules[number], [found[part] for part in row])


def fact_of_rule(rule, facts):
    """The fact that a rule makes of a fact for each of its goals; None if these don't fit."""
    if None in facts or [relation_of(fact) for fact in facts] != [relation_of(goal) for goal in rule.goals]:
        return None
    patterns = terms_in_goals(rule.goals)
    worth = {}
    for pattern, constant in zip(patterns, terms_in_goals(facts)):
        if (worth.setdefault(pattern[1], constant) if is_unknown(pattern) else pattern) != constant:
            return None
    return rule.head[0], tuple([worth[term[1]] if is_unknown(term) else term for term in rule.head[1]])
