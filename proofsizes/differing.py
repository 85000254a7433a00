"""Shallow programs side by side: whether a relation has the same terms in both."""

from proofsizes.errors import BadQuestion, TooLarge
from proofsizes.kinds import rounds_of
from proofsizes.leastterms import least_of
from proofsizes.programs import MOST_RULES, Program
from proofsizes.shallow import check_shallow, clauses_of
from proofsizes.sharing import FEW_STEPS, are_same
from proofsizes.terms import is_ground_term, is_name

# Ahead of the names of relations, so that those of the two programs are unlike.
FIRST = "1"
SECOND = "2"


class SameTerms:
    """A relation has the same terms in two programs."""

    def __bool__(self):
        return True

    def __eq__(self, other):
        return isinstance(other, SameTerms)

    def shows(self, one, other, name):
        """Whether it is so."""
        return bool(judge_programs(one, other, name))


class OnlyOne:
    """A ground term that is of a relation in one of two programs alone."""

    def __init__(self, term):
        self.term = term

    def __bool__(self):
        return False

    def __eq__(self, other):
        return isinstance(other, OnlyOne) and are_same([(self.term, other.term)], FEW_STEPS)

    def shows(self, one, other, name):
        """Whether it is so."""
        found = round_of_both(one, other, name)
        if not is_ground_term(self.term):
            return False
        return not is_alike(found.types_met()[found.as_states().of_term(self.term, {})], name)


def judge_programs(one, other, name):
    """A SameTerms, or an OnlyOne, of two shallow programs and a relation of one term."""
    found = round_of_both(one, other, name)
    types_met = found.types_met()
    least = least_of(found.as_states())
    for state in least:
        if not is_alike(types_met[state], name):
            return OnlyOne(least[state].term)
    return SameTerms()


def round_of_both(one, other, name):
    """The last round of the types that terms have in two programs together."""
    check_shallow(one)
    check_shallow(other)
    if not is_name(name):
        raise BadQuestion("name")
    return joined_round(one, other)


def joined_round(one, other):
    """The last round of two shallow programs together."""
    many = len(one.rules) + len(other.rules)
    if many > MOST_RULES:
        raise TooLarge(many)
    return rounds_of(clauses_of(one, FIRST) + clauses_of(other, SECOND))[-1]


def is_alike(labels, name):
    """Whether the labels that a term has in both programs are a relation's in both, or in none."""
    return (FIRST + name in labels) == (SECOND + name in labels)


def needless_rules(program):
    """The ascending tuple of the numbers of the rules without each of which all relations keep their terms."""
    check_shallow(program)
    return tuple([number for number in range(len(program.rules)) if is_needless(program, number)])


def is_needless(program, number):
    """Whether all relations keep their terms without a rule."""
    without = Program(program.rules[:number] + program.rules[number + 1:])
    found = joined_round(program, without)
    names = [rule.head[0] for rule in program.rules]
    return all([is_alike(labels, name) for labels in found.types_met() for name in names])
