"""Random flat programs and slow ways to their facts, for several tests."""

import itertools

from proofsizes.programs import Program, Rule
from proofsizes.terms import names_in
from tests.plain import terms_key
from tests.samples import OWN, X, Y, Z

CONSTANTS = ["a", "b", 1]


def random_flat(source, most=8, is_plain=False, constants=CONSTANTS):
    """A flat program of relations of up to two terms."""
    return Program([random_flat_rule(source, is_plain, constants) for _ in range(source.randrange(2, most + 1))])


def random_goal(source, terms):
    name, many = source.choice([("p", 2), ("q", 2), ("r", 1), ("s", 0)])
    return name, tuple(source.choice(terms) for _ in range(many))


def random_flat_rule(source, is_plain=False, constants=CONSTANTS):
    if source.random() < 0.4:
        return Rule(random_goal(source, constants), [])
    goals = [random_goal(source, [X, Y, Z, X, Y, Z] + constants[:1]) for _ in range(source.choice([1, 1, 2, 2, 3]))]
    unknowns = [("?", name) for name in names_in([term for goal in goals for term in goal[1]])]
    if unknowns and not is_plain and source.random() < 0.4:
        goals.append((source.choice(OWN), (source.choice(unknowns), source.choice(unknowns + constants))))
        source.shuffle(goals)
    return Rule(random_goal(source, unknowns * 2 + constants), goals)


def put(goal, worth):
    return goal[0], tuple(worth[term[1]] if isinstance(term, tuple) else term for term in goal[1])


def slow_rows(rule, facts, constants):
    """All dicts of constants for a rule's unknowns by which its goals are so."""
    names = names_in([term for goal in rule.goals for term in goal[1]])
    for row in itertools.product(constants, repeat=len(names)):
        worth = dict(zip(names, row))
        if all(is_so(put(goal, worth), facts) for goal in rule.goals):
            yield worth


def is_so(goal, facts):
    if goal[0] in OWN:
        return (goal[1][0] == goal[1][1]) == (goal[0] == "equal")
    return goal in facts


def constants_of(rules):
    goals = [goal for rule in rules for goal in (rule.head,) + rule.goals]
    return sorted({term for _, terms in goals for term in terms if not isinstance(term, tuple)}, key=str)


def slow_facts(rules, given=()):
    """The set of the facts that rules make of given ones."""
    facts = set(given)
    constants = sorted(set(constants_of(rules)) | {term for _, terms in facts for term in terms}, key=str)
    before = -1
    while len(facts) > before:
        before = len(facts)
        for rule in rules:
            facts |= {put(rule.head, worth) for worth in slow_rows(rule, facts, constants)}
    return facts


def ordered(facts):
    return sorted(facts, key=lambda fact: (fact[0], len(fact[1]), terms_key(fact[1])))
