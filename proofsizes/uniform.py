"""What follows from flat programs whatever facts are given to them as well."""

from proofsizes.derivations import Derivations
from proofsizes.errors import RelationError, TooLarge
from proofsizes.flat import check_flat, facts_by, is_fact_shape, is_flat
from proofsizes.joining import Facts, FlatRule, ascending_facts
from proofsizes.programs import OWN_NAMES, Program, Rule, all_goals, terms_in_goals
from proofsizes.sharing import MOST_STEPS, are_same
from proofsizes.sifting import placed_in
from proofsizes.terms import as_tuple, is_integer, names_in
from proofsizes.uniformtrees import proves

MOST_RULES = 10


class NotPlain(RelationError):
    """The number of the first rule with an equal or unlike goal; None for a rule by itself that can't be judged."""

    def __init__(self, number):
        self.number = number


class Follows:
    """A proof of a rule's head, with constants for its unknowns, by a program and the rule's goals behind its rules."""

    def __init__(self, proof):
        self.proof = as_tuple(proof)

    def __bool__(self):
        return True

    def __eq__(self, other):
        return isinstance(other, Follows) and are_same([(self.proof, other.proof)], MOST_STEPS)

    def shows(self, program, rule):
        """Whether it is such a proof."""
        check_following(program, rule)
        longer, head = with_goals(program, rule)
        return proves(longer, self.proof, head)


class Apart:
    """Facts that a program keeps, by which a rule has a head that is none of them."""

    def __init__(self, facts):
        self.facts = as_tuple(facts)

    def __bool__(self):
        return False

    def __eq__(self, other):
        return isinstance(other, Apart) and self.facts == other.facts

    def shows(self, program, rule):
        """Whether it is so."""
        check_following(program, rule)
        if not isinstance(self.facts, tuple) or not all([is_fact_shape(fact) for fact in self.facts]):
            return False
        known = Facts()
        known.include_all(self.facts)
        if not all([keeps(known, one) for one in program.rules]):
            return False
        return not keeps(known, rule)


def keeps(known, rule):
    """Whether all heads of a rule by some facts are among them."""
    return all([known.has_fact(fact) for fact in FlatRule(rule, ()).heads_by(known)])


def check_plain_programs(programs):
    """Raises NotFlat, NotPlain or TooLarge for the first of some programs that isn't as it must be."""
    for program in programs:
        check_flat(program)
    for program in programs:
        for number, rule in enumerate(program.rules):
            if has_own_goal(rule):
                raise NotPlain(number)
    for program in programs:
        if len(program.rules) > MOST_RULES:
            raise TooLarge(len(program.rules))


def has_own_goal(rule):
    """Whether a rule has an equal or unlike goal."""
    return any([goal[0] in OWN_NAMES for goal in rule.goals])


def check_following(program, rule):
    """Raises NotFlat, NotPlain or TooLarge for a program or a rule by itself that can't be judged."""
    check_flat(program)
    for number, one in enumerate(program.rules):
        if has_own_goal(one):
            raise NotPlain(number)
    if not is_flat(rule) or has_own_goal(rule):
        raise NotPlain(None)
    if len(program.rules) > MOST_RULES:
        raise TooLarge(len(program.rules))


def with_goals(program, rule):
    """The program with a rule's goals behind its rules, and the rule's head, with integers for its unknowns."""
    terms = terms_in_goals(all_goals(rule))
    standing = terms + [term for one in program.rules for term in terms_in_goals(all_goals(one))]
    first = 1 + max([0] + [term for term in standing if is_integer(term)])
    worth = {name: first + at for at, name in enumerate(names_in(terms))}
    head, *goals = [(goal[0], tuple(placed_in(goal[1], worth))) for goal in all_goals(rule)]
    return Program(list(program.rules) + [Rule(goal, []) for goal in goals]), head


def judge_follows(program, rule):
    """A Follows, or an Apart, of a flat program and a rule."""
    check_following(program, rule)
    longer, head = with_goals(program, rule)
    found = facts_by(longer)
    if found.has_fact(head):
        return Follows(Derivations(longer, found).least_tree(head))
    return Apart(ascending_facts(found.known))


def is_same(one, other):
    """Whether two programs have the same facts, whatever is given to both."""
    check_plain_programs([one, other])
    return all_follow(one, other) and all_follow(other, one)


def all_follow(program, other):
    """Whether all rules of another program follow from a program."""
    return all([follows(program, rule) for rule in other.rules])


def follows(program, rule):
    """Whether a rule follows from a program."""
    longer, head = with_goals(program, rule)
    return facts_by(longer).has_fact(head)


def shrunk(program):
    """A program that is the same, whatever is given, without rules and goals that can be left out."""
    check_plain_programs([program])
    rules = list(program.rules)
    for number in range(len(rules)):
        at = 0
        while at < len(rules[number].goals):
            goals = rules[number].goals
            less = Rule(rules[number].head, goals[:at] + goals[at + 1:])
            if is_flat(less) and follows(Program(rules), less):
                rules[number] = less
            else:
                at += 1
    for number in reversed(range(len(rules))):
        others = rules[:number] + rules[number + 1:]
        if follows(Program(others), rules[number]):
            rules = others
    return Program(rules)
