"""Sets of ground terms, by finitely many states: put together, compared, and with the fewest states."""

from proofsizes.errors import TooLarge
from proofsizes.kinds import MOST_ROWS
from proofsizes.leastterms import least_terms_of
from proofsizes.models import BadModel
from proofsizes.pairing import Pairs
from proofsizes.parting import least_states, parting_contexts
from proofsizes.shallow import rounds_for
from proofsizes.sharedterms import SharedTerms
from proofsizes.sharing import FEW_STEPS, are_same, are_same_dicts, hide_truth_value
from proofsizes.states import MOST_STATES, States, are_states_of_constants, are_tables, copied_tables
from proofsizes.states import is_dict_of_constants, is_many, lead_to_states, power, rows_of
from proofsizes.terms import as_dict, is_ground_term, is_number_below, is_row


class TermSet:
    """The ground terms whose states are good."""

    def __init__(self, many, constants, compounds, other, good):
        part = first_wrong(many, constants, compounds, other, good)
        if part is not None:
            raise BadModel(part)
        self.many = many
        self.constants = as_dict(constants)
        self.compounds = copied_tables(compounds)
        self.other = other
        self.good = tuple(sorted(set(list(good))))

    def __eq__(self, other):
        if not isinstance(other, TermSet):
            return False
        if self.many != other.many or self.constants != other.constants or self.compounds != other.compounds:
            return False
        return self.other == other.other and self.good == other.good

    def state(self, term):
        """The state of a ground term."""
        return states_of_set(self).of_term(term, {})

    def has(self, term):
        """Whether a ground term is in the set."""
        return self.state(term) in self.good


def first_wrong(many, constants, compounds, other, good):
    """The first part of a set of terms that is not as described; None if all are."""
    if not is_many(many):
        return "many"
    if not is_dict_of_constants(constants):
        return "constants"
    if not are_tables(compounds, many):
        return "compounds"
    if not are_states_of_constants(constants, many):
        return "constants"
    if not is_number_below(other, many):
        return "other"
    if not is_row(good) or not all([is_number_below(state, many) for state in good]):
        return "good"
    return None if lead_to_states(compounds, many) else "compounds"


def states_of_set(one):
    """The states of ground terms by which a set tells what is in it."""
    return States(one.many, one.constants, one.other, one.compounds, one.other)


def set_of_states(states, good):
    """The set of the terms that have good ones of some states."""
    return TermSet(states.many, states.constants, states.compounds, states.other, good)


def relation_set(program, name):
    """The set of the terms of a relation of a shallow program."""
    found = rounds_for(program)[-1]
    return set_of_states(found.as_states(), [at for at, labels in enumerate(found.types_met()) if name in labels])


def others(one):
    """The set of all terms that aren't in a set."""
    return set_of_states(states_of_set(one), [state for state in range(one.many) if state not in one.good])


def both(one, other):
    """The set of the terms that are in both of two sets."""
    pairs = pairs_of(one, other)
    return set_of_pairs(pairs, [pair for pair in pairs.terms if pair[0] in one.good and pair[1] in other.good])


def either(one, other):
    """The set of the terms that are in one of two sets, at least."""
    pairs = pairs_of(one, other)
    return set_of_pairs(pairs, [pair for pair in pairs.terms if pair[0] in one.good or pair[1] in other.good])


def pairs_of(one, other):
    """The pairs of states that ground terms have in two sets."""
    pairs = Pairs(states_of_set(one), states_of_set(other))
    if len(pairs.terms) > MOST_STATES:
        raise TooLarge(len(pairs.terms))
    return pairs


def set_of_pairs(pairs, good):
    """The set of the terms that have good pairs of states."""
    for _, parts in pairs.keys_told:
        rows = power(len(pairs.terms), parts)
        if rows > MOST_ROWS:
            raise TooLarge(rows)
    ascending = sorted(pairs.terms)
    numbers = {pair: at for at, pair in enumerate(ascending)}
    constants = {constant: numbers[pairs.constants[constant]] for constant in pairs.constants}
    compounds = {}
    for name, parts in pairs.keys_told:
        table = {}
        for row in rows_of(list(range(len(ascending))), parts):
            table[row] = numbers[pairs.of_compound(name, [ascending[at] for at in row])]
        compounds[name, parts] = table
    return TermSet(len(ascending), constants, compounds, numbers[pairs.beyond], [numbers[pair] for pair in good])


class SameSet:
    """Two sets have the same terms."""

    def __bool__(self):
        return True

    def __eq__(self, other):
        return isinstance(other, SameSet)

    def shows(self, one, other):
        """Whether it is so."""
        return bool(judge_sets(one, other))


class InOne:
    """A ground term that is in one of two sets alone."""

    def __init__(self, term):
        self.term = term

    def __bool__(self):
        return False

    def __eq__(self, other):
        return isinstance(other, InOne) and are_same([(self.term, other.term)], FEW_STEPS)

    def shows(self, one, other):
        """Whether it is so."""
        return is_ground_term(self.term) and one.has(self.term) != other.has(self.term)


def judge_sets(one, other):
    """A SameSet, or an InOne, of two sets."""
    pairs = pairs_of(one, other)
    for pair in pairs.terms:
        if (pair[0] in one.good) != (pair[1] in other.good):
            return InOne(pairs.terms[pair])
    return SameSet()


def least_set(one):
    """The set with the same terms and the fewest states, numbered by their least terms."""
    states, good = least_states(states_of_set(one), one.good)
    return set_of_states(states, good)


class Fewest:
    """A term of each state of a set, and contexts that part any two: so none of these states can be spared."""

    def __init__(self, terms, parting):
        self.terms = as_dict(terms)
        self.parting = {pair: parting[pair] for pair in parting} if isinstance(parting, dict) else parting

    def __eq__(self, other):
        if not isinstance(other, Fewest) or not are_same_dicts(self.terms, other.terms):
            return False
        return are_same_dicts(self.parting, other.parting)

    def shows(self, one):
        """Whether it is so of a set that is to have these states."""
        if not isinstance(self.terms, dict) or not isinstance(self.parting, dict):
            return False
        if not all([is_number_below(state, one.many) for state in self.terms]) or len(self.terms) != one.many:
            return False
        if not all([is_pair_of_states(pair, one.many) for pair in self.parting]):
            return False
        if len(self.parting) != one.many * (one.many - 1) // 2:
            return False
        return have_states(one, self.terms, self.parting)


def is_pair_of_states(thing, many):
    """Whether a thing is a pair of unlike states, the lesser first."""
    if not isinstance(thing, tuple) or len(thing) != 2 or not all([is_number_below(one, many) for one in thing]):
        return False
    return thing[0] < thing[1]


def have_states(one, terms, parting):
    """Whether ground terms have their states in a set, and contexts are in it with terms of one of two states alone."""
    things = [terms[state] for state in terms] + [parting[pair] for pair in parting]
    shared = SharedTerms(things)
    if hide_truth_value(things, shared.parts, shared.numbers):
        return False
    # What stands in a context for its unknown may have any of the states.
    found = [shared.states_by(states_of_set(one), {0: state}) for state in range(one.many)]
    numbers = shared.numbers[:len(terms)]
    for state, number in zip(terms, numbers):
        if shared.unknowns[number] != {} or found[0][number] != state:
            return False
    for pair, number in zip(parting, shared.numbers[len(terms):]):
        first, second = [found[state][number] in one.good for state in pair]
        if shared.unknowns[number] != {0: 1} or first == second:
            return False
    return True


def fewest(one):
    """The pair of the least set with the same terms, and the Fewest of that."""
    found = least_set(one)
    states = states_of_set(found)
    terms = least_terms_of(states)
    return found, Fewest(terms, parting_contexts(states, found.good, terms))
