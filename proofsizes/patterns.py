"""Terms with unknowns against sets of ground terms."""

from proofsizes.errors import BadTerm, TooLarge
from proofsizes.fitting import fitted, repeated_names
from proofsizes.kinds import Clause, Round
from proofsizes.leastterms import least_terms_of
from proofsizes.regular import set_of_states, states_of_set
from proofsizes.shallow import is_dict_of_ground_terms
from proofsizes.states import States, power
from proofsizes.terms import as_dict, is_compound, is_term, is_unknown, names_in, parts_of, put_in, unknown_text

MOST_WAYS = 20000


class AllIn:
    """All ground instances of a term are in a set."""

    def __bool__(self):
        return True

    def __eq__(self, other):
        return isinstance(other, AllIn)

    def shows(self, one, pattern):
        """Whether it is so."""
        return bool(judge_pattern(one, pattern))


class NotIn:
    """Ground terms for a term's unknowns by which it isn't in a set."""

    def __init__(self, terms):
        self.terms = as_dict(terms)

    def __bool__(self):
        return False

    def __eq__(self, other):
        return isinstance(other, NotIn) and self.terms == other.terms

    def shows(self, one, pattern):
        """Whether these terms are for just the unknowns, and it is so by them."""
        check_pattern(pattern)
        if not is_dict_of_ground_terms(self.terms, names_in([pattern])):
            return False
        return not one.has(put_in(pattern, self.terms))


def check_pattern(pattern):
    """Raises BadTerm for what is no term."""
    if not is_term(pattern):
        raise BadTerm(None)


def judge_pattern(one, pattern):
    """An AllIn, or a NotIn, of a set and a term."""
    check_pattern(pattern)
    terms = terms_by_which(one, pattern, [state for state in range(one.many) if state not in one.good])
    return AllIn() if terms is None else NotIn(terms)


def some_in(one, pattern):
    """A dict of ground terms for a term's unknowns by which it is in a set; None without any."""
    check_pattern(pattern)
    return terms_by_which(one, pattern, one.good)


def terms_by_which(one, pattern, lets):
    """A dict of ground terms for a term's unknowns by which it has one of some states; None without any."""
    states = states_of_set(one)
    least = least_terms_of(states)
    ways = power(len(least), len(names_in([pattern])))
    if ways > MOST_WAYS:
        raise TooLarge(ways)
    worth = fitted(states, [(pattern, {state: True for state in lets})], list(least))
    if worth is None:
        return None
    return {name: least[worth[name]] for name in sorted(worth, key=unknown_text)}


def instances_set(pattern):
    """The set of the ground instances of a term in which no unknown stands twice."""
    if not is_term(pattern) or repeated_names([pattern]):
        raise BadTerm(None)
    if is_unknown(pattern):
        return set_of_states(States(1, {}, 0, {}, 0), [0])
    clauses, root = clauses_for(pattern)
    found = Round(clauses, [])
    found.check_size()
    return set_of_states(found.as_states(), [at for at, labels in enumerate(found.types_met()) if root in labels])


def clauses_for(pattern):
    """The clauses by which ground terms have labels for the parts of a term that they are instances of, and its own."""
    clauses = []
    labels = {}
    built = []
    for part in reversed(parts_of(pattern)):
        if is_unknown(part):
            built.append(None)
            continue
        inner = ()
        if is_compound(part):
            many = len(part[1])
            inner = tuple(built[-many:][::-1])
            del built[-many:]
        key = (part[0], many) if inner else ("", part)
        if (key, inner) not in labels:
            labels[key, inner] = len(clauses)
            parts = [[] if label is None else [label] for label in inner]
            clauses.append(Clause(len(clauses), key, parts, []))
        built.append(labels[key, inner])
    return clauses, built[0]
