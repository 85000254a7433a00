"""What facts of flat programs hang on: the least sets of given facts from which they follow."""

from proofsizes.derivations import Derivations
from proofsizes.errors import TooLarge
from proofsizes.flat import NoFact, check_fact, facts_by
from proofsizes.programs import Program
from proofsizes.subsets import Subsets, many_bits
from proofsizes.terms import is_number_below, is_row

MOST_SETS = 300


class BadNumbers(NoFact):
    """What is no row of numbers of rules without goals."""

    def __init__(self, gone):
        NoFact.__init__(self, gone)


def supports(program, fact):
    """The ascending tuple of all least sets of numbers of rules without goals from which a fact follows."""
    found = facts_by(program)
    check_fact(found, fact)
    given = [number for number, rule in enumerate(program.rules) if not rule.goals]
    subsets = Subsets(len(given))
    ways = Derivations(program, found).ways
    tables = tables_of_facts(ways, given, subsets)
    least = {other: subsets.least_of(tables[other]) for other in tables}
    check_many(ways, tables, least, subsets)
    rows = [tuple([given[at] for at in row]) for row in subsets.rows_of(least[fact])]
    return tuple(sorted(rows))


def tables_of_facts(ways, given, subsets):
    """The dict from facts to bits for all sets of given rules from which they follow."""
    own = {number: subsets.with_one(at) for at, number in enumerate(given)}
    tables = {fact: 0 for fact in ways}
    before = None
    while before != tables:
        before = {fact: tables[fact] for fact in tables}
        for fact in ways:
            for number, goals in ways[fact]:
                table = own.get(number, subsets.every)
                for goal in goals:
                    table = table & tables[goal]
                tables[fact] = tables[fact] | table
    return tables


def check_many(ways, tables, least, subsets):
    """Raises TooLarge for too many least sets of a fact, or of goals that a way to a fact begins with."""
    many = {fact: many_bits(least[fact]) for fact in least}
    for fact in many:
        check_sets(many[fact])
    for fact in ways:
        for _, goals in ways[fact]:
            check_goals([tables[goal] for goal in goals], [many[goal] for goal in goals], subsets)


def check_goals(tables, many, subsets):
    """Raises TooLarge for too many least sets of some goals together, or of those that they begin with."""
    product = 1
    table = subsets.every
    for one, sets in zip(tables, many):
        product = product * sets
        table = table & one
        # There are no more least sets than ways to take one for each goal.
        if product > MOST_SETS:
            check_sets(many_bits(subsets.least_of(table)))


def check_sets(many):
    """Raises TooLarge for too many sets."""
    if many > MOST_SETS:
        raise TooLarge(many)


def survives(program, fact, gone):
    """Whether a fact follows without some rules that have no goals."""
    check_fact(facts_by(program), fact)
    if not is_row(gone) or not all([is_given(program, number) for number in gone]):
        raise BadNumbers(gone)
    rules = [rule for number, rule in enumerate(program.rules) if number not in gone]
    return facts_by(Program(rules)).has_fact(fact)


def is_given(program, thing):
    """Whether a thing is the number of a rule without goals."""
    return is_number_below(thing, len(program.rules)) and not program.rules[thing].goals


def must_have(program, fact):
    """The ascending tuple of the numbers of those rules without goals that stand in all least sets of a fact."""
    rows = supports(program, fact)
    return tuple([number for number in rows[0] if all([number in row for row in rows])])
