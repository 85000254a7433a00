"""Flat programs: all facts that follow, their least proofs, how many proofs there are, facts that come and go."""

from proofsizes.derivations import Derivations
from proofsizes.errors import RelationError
from proofsizes.joining import Facts, FlatRule, add_all_made, ascending_facts
from proofsizes.programs import OWN_NAMES, all_goals, relation_goals, terms_in_goals
from proofsizes.terms import is_compound, is_constant, is_name, names_in


class NotFlat(RelationError):
    """The number of the first rule that isn't flat."""

    def __init__(self, number):
        self.number = number


class NoFact(RelationError):
    """What is none of the facts, or wasn't given."""

    def __init__(self, fact):
        self.fact = fact


def is_flat(rule):
    """Whether no compounds stand in a rule, and each unknown stands in a relation goal."""
    if any([is_compound(term) for term in terms_in_goals(all_goals(rule))]):
        return False
    asked = names_in(terms_in_goals(relation_goals(rule.goals)))
    return all([name in asked for name in names_in(terms_in_goals(all_goals(rule)))])


def check_flat(program):
    """Raises NotFlat for the first rule that isn't flat."""
    for number, rule in enumerate(program.rules):
        if not is_flat(rule):
            raise NotFlat(number)


def is_fact_shape(thing):
    """Whether a thing is a relation of a tuple of constants."""
    if not isinstance(thing, tuple) or len(thing) != 2 or not is_name(thing[0]) or thing[0] in OWN_NAMES:
        return False
    return isinstance(thing[1], tuple) and all([is_constant(term) for term in thing[1]])


def facts_by(program):
    """All facts of a flat program."""
    check_flat(program)
    found = Facts()
    add_all_made([FlatRule(rule, ()) for rule in program.rules], found, {})
    return found


def check_fact(found, fact):
    """Raises NoFact for what is none of some facts."""
    if not is_fact_shape(fact) or not found.has_fact(fact):
        raise NoFact(fact)


def facts(program):
    """The tuple of all facts that follow, in order."""
    return tuple(ascending_facts(facts_by(program).known))


def least_sizes(program):
    """The dict from all facts, in order, to how many rules a least proof of each has."""
    found = facts_by(program)
    sizes = Derivations(program, found).least_sizes()
    return {fact: sizes[fact] for fact in ascending_facts(found.known)}


def least_proof(program, fact):
    """A proof of a fact with the fewest rules, a tree."""
    found = facts_by(program)
    check_fact(found, fact)
    return Derivations(program, found).least_tree(fact)


def count_proofs(program, fact):
    """How many proofs a fact has; None for endless many."""
    found = facts_by(program)
    check_fact(found, fact)
    return Derivations(program, found).count_trees(fact)


class Held:
    """A flat program, and facts that are given and taken away again."""

    def __init__(self, program):
        found = facts_by(program)
        self.rules = [FlatRule(rule, ()) for rule in program.rules]
        self.given = {}
        self.facts = tuple(ascending_facts(found.known))

    def put(self, fact):
        """Gives a fact; the list of the facts that come, in order."""
        if not is_fact_shape(fact):
            raise NoFact(fact)
        if fact in self.given:
            return []
        found = Facts()
        found.include_all(self.facts)
        behind = {at: rule.counts(found) for at, rule in enumerate(self.rules)}
        found.include(fact)
        add_all_made(self.rules, found, behind)
        new = ascending_facts(list(found.known)[len(self.facts):])
        self.given[fact] = True
        self.facts = merged(self.facts, new)
        return new

    def take(self, fact):
        """Takes a given fact away; the list of the facts that go, in order."""
        if not is_fact_shape(fact) or fact not in self.given:
            raise NoFact(fact)
        del self.given[fact]
        found = Facts()
        found.include_all(list(self.given))
        add_all_made(self.rules, found, {})
        gone = [one for one in self.facts if not found.has_fact(one)]
        self.facts = tuple([one for one in self.facts if found.has_fact(one)])
        return gone


def merged(one, new):
    """The tuple of two ascending rows of unlike facts, together, ascending."""
    return tuple(ascending_facts(list(one) + new)) if new else one
