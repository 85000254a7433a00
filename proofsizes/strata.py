"""Flat rules with goals that must not hold: strata, and facts stratum by stratum."""

from proofsizes.errors import RelationError, TooLarge
from proofsizes.flat import is_fact_shape, is_flat
from proofsizes.joining import Facts, FlatRule, add_all_made, ascending_facts
from proofsizes.programs import MOST_GOALS, MOST_RULES, Rule, is_relation_goal, kept_goal, relation_goals, relation_of
from proofsizes.programs import terms_in_goals
from proofsizes.terms import as_dict, as_tuple, is_compound, is_integer, is_row, names_in


class BadBarred(RelationError):
    """None for a rule that can't have such goals, or no row; the number of what is no Barred."""

    def __init__(self, number):
        self.number = number


class NoStrata(RelationError):
    """A ring of relations, each of which asks the next one, with a not."""

    def __init__(self, ring):
        self.ring = ring


class Barred:
    """A flat rule, and goals none of which may be a fact."""

    def __init__(self, head, goals, nots):
        rule = Rule(head, goals)
        if not is_flat(rule) or not are_nots(nots, rule):
            raise BadBarred(None)
        self.rule = rule
        self.nots = tuple([kept_goal(goal) for goal in nots])

    def __eq__(self, other):
        return isinstance(other, Barred) and self.rule == other.rule and self.nots == other.nots


class Strata:
    """Numbers for all relations, none below one that its rules ask, each above those that they ask by nots."""

    def __init__(self, numbers):
        self.numbers = as_dict(numbers)

    def __bool__(self):
        return True

    def __eq__(self, other):
        return isinstance(other, Strata) and self.numbers == other.numbers

    def shows(self, rules):
        """Whether these are such numbers, from 0 on."""
        check_barred(rules)
        if not isinstance(self.numbers, dict) or not all([is_relation_shape(one) for one in self.numbers]):
            return False
        if sorted(self.numbers) != relations_of_barred(rules):
            return False
        if not all([is_integer(self.numbers[one]) and self.numbers[one] >= 0 for one in self.numbers]):
            return False
        numbers = self.numbers
        return all([numbers[one] >= least_above(numbers, other, by_not) for one, other, by_not in steps_of(rules)])


class Ringed:
    """Relations, each of which asks the next one, round to the first one, with a not."""

    def __init__(self, ring):
        self.ring = as_tuple(ring)

    def __bool__(self):
        return False

    def __eq__(self, other):
        return isinstance(other, Ringed) and self.ring == other.ring

    def shows(self, rules):
        """Whether rules ask so."""
        check_barred(rules)
        if not isinstance(self.ring, tuple) or not all([is_step_shape(step) for step in self.ring]):
            return False
        steps = {step: True for step in steps_of(rules)}
        if not all([step in steps for step in self.ring]) or not any([by_not for _, _, by_not in self.ring]):
            return False
        return all([step[0] == self.ring[at - 1][1] for at, step in enumerate(self.ring)])


def are_nots(thing, rule):
    """Whether a thing is a row of goals that may be barred from a rule."""
    if not is_row(thing) or len(thing) > MOST_GOALS or not all([is_relation_goal(goal) for goal in thing]):
        return False
    if any([is_compound(term) for term in terms_in_goals(thing)]):
        return False
    asked = names_in(terms_in_goals(relation_goals(rule.goals)))
    return all([name in asked for name in names_in(terms_in_goals(thing))])


def is_relation_shape(thing):
    """Whether a thing is a pair of a string and an integer."""
    return isinstance(thing, tuple) and len(thing) == 2 and isinstance(thing[0], str) and is_integer(thing[1])


def is_step_shape(thing):
    """Whether a thing is a tuple of two relations, and whether by a not."""
    if not isinstance(thing, tuple) or len(thing) != 3 or not isinstance(thing[2], bool):
        return False
    return is_relation_shape(thing[0]) and is_relation_shape(thing[1])


def check_barred(rules):
    """Raises BadBarred for what is no row of Barreds, TooLarge for too many."""
    if not is_row(rules):
        raise BadBarred(None)
    for number, rule in enumerate(rules):
        if not isinstance(rule, Barred):
            raise BadBarred(number)
    if len(rules) > MOST_RULES:
        raise TooLarge(len(rules))


def steps_of(rules):
    """The list of what relations ask by rules, each step once: the relation, the asked one, whether by a not."""
    found = {}
    for one in rules:
        relation = relation_of(one.rule.head)
        for goal in relation_goals(one.rule.goals):
            found[relation, relation_of(goal), False] = True
        for goal in one.nots:
            found[relation, relation_of(goal), True] = True
    return list(found)


def relations_of_barred(rules):
    """The ascending list of all relations of rules."""
    heads = [relation_of(one.rule.head) for one in rules]
    return sorted(set(heads + [relation for step in steps_of(rules) for relation in step[:2]]))


def least_above(numbers, other, by_not):
    """The least number that a relation may have which asks another one."""
    return numbers[other] + (1 if by_not else 0)


def judge_strata(rules):
    """A Strata with the least numbers, or a Ringed, of a row of Barreds."""
    check_barred(rules)
    steps = steps_of(rules)
    numbers = {relation: 0 for relation in relations_of_barred(rules)}
    is_over = False
    while not is_over:
        is_over = True
        for one, other, by_not in steps:
            if numbers[one] < least_above(numbers, other, by_not):
                numbers[one] = least_above(numbers, other, by_not)
                is_over = False
        # Without a ring no number comes to as many as there are relations.
        if numbers and max(list(numbers.values())) >= len(numbers):
            return Ringed(ring_in(steps))
    return Strata(numbers)


def ring_in(steps):
    """A ring of steps with a not."""
    for step in steps:
        if step[2]:
            path = path_between(steps, step[1], step[0])
            if path is not None:
                return tuple([step] + path)
    return ()


def path_between(steps, start, end):
    """The list of the fewest steps from a relation to another one, or none to itself; None without any."""
    came = {start: None}
    row = [start]
    while row:
        behind = []
        for step in steps:
            if step[0] in row and step[1] not in came:
                came[step[1]] = step
                behind.append(step[1])
        row = behind
    if end not in came:
        return None
    path = []
    while end != start:
        path.append(came[end])
        end = came[end][0]
    return path[::-1]


def layered_facts(rules):
    """The tuple of the facts, stratum by stratum, in order."""
    paper = judge_strata(rules)
    if not paper:
        raise NoStrata(paper.ring)
    found = Facts()
    for stratum in sorted(set(list(paper.numbers.values()))):
        own = [one for one in rules if paper.numbers[relation_of(one.rule.head)] == stratum]
        add_all_made([FlatRule(one.rule, one.nots) for one in own], found, {})
    return tuple(ascending_facts(found.known))


def is_supported(rules, facts):
    """Whether some facts are just those that rules make of them."""
    check_barred(rules)
    if not is_row(facts) or not all([is_fact_shape(fact) for fact in facts]):
        return False
    found = Facts()
    found.include_all(facts)
    made = {fact: True for one in rules for fact in FlatRule(one.rule, one.nots).heads_by(found)}
    return ascending_facts(made) == ascending_facts(found.known)
