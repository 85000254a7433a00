"""Terms with unknowns against sets of ground terms."""

from proofsizes.errors import BadTerm, TooLarge
from proofsizes.fitting import fitted, repeated_names
from proofsizes.kinds import Clause, Round
from proofsizes.leastterms import least_terms_of
from proofsizes.nodes import names_in, unlike_nodes
from proofsizes.regular import set_of_states, states_of_set
from proofsizes.shallow import states_told
from proofsizes.sharing import are_same_dicts
from proofsizes.shelves import Shelf
from proofsizes.states import States, power
from proofsizes.terms import as_dict, is_term, is_unknown, unknown_text

MOST_WAYS = 20000
# With so many parts a ground term has far more types than may be, and they need not be told one by one.
FAR_TOO_MANY = 500


class AllIn:
    """All ground instances of a term are in a set."""

    def __bool__(self):
        return True

    def __eq__(self, other):
        return isinstance(other, AllIn)

    def shows(self, one, pattern):
        """Whether it is so."""
        return bool(judge_pattern(one, pattern))


class NotIn:
    """Ground terms for a term's unknowns by which it isn't in a set."""

    def __init__(self, terms):
        self.terms = as_dict(terms)

    def __bool__(self):
        return False

    def __eq__(self, other):
        return isinstance(other, NotIn) and are_same_dicts(self.terms, other.terms)

    def shows(self, one, pattern):
        """Whether these terms are for just the unknowns, and it is so by them."""
        check_pattern(pattern)
        node = Shelf().node_of(pattern)
        states = states_of_set(one)
        values = states_told(states, self.terms, names_in([node]))
        return values is not None and states.of_node(node, values) not in one.good


def check_pattern(pattern):
    """Raises BadTerm for what is no term."""
    if not is_term(pattern):
        raise BadTerm(None)


def judge_pattern(one, pattern):
    """An AllIn, or a NotIn, of a set and a term."""
    check_pattern(pattern)
    terms = terms_by_which(one, pattern, [state for state in range(one.many) if state not in one.good])
    return AllIn() if terms is None else NotIn(terms)


def some_in(one, pattern):
    """A dict of ground terms for a term's unknowns by which it is in a set; None without any."""
    check_pattern(pattern)
    return terms_by_which(one, pattern, one.good)


def terms_by_which(one, pattern, lets):
    """A dict of ground terms for a term's unknowns by which it has one of some states; None without any."""
    states = states_of_set(one)
    least = least_terms_of(states)
    node = Shelf().node_of(pattern)
    ways = power(len(least), len(names_in([node])))
    if ways > MOST_WAYS:
        raise TooLarge(ways)
    worth = fitted(states, [(node, {state: True for state in lets})], list(least))
    if worth is None:
        return None
    return {name: least[worth[name]] for name in sorted(worth, key=unknown_text)}


def instances_set(pattern):
    """The set of the ground instances of a term in which no unknown stands twice."""
    if not is_term(pattern):
        raise BadTerm(None)
    node = Shelf().node_of(pattern)
    if repeated_names([node]):
        raise BadTerm(None)
    if is_unknown(pattern):
        return set_of_states(States(1, {}, 0, {}, 0), [0])
    check_parts(node)
    clauses, root = clauses_for(node)
    found = Round(clauses, [])
    found.check_size()
    return set_of_states(found.as_states(), [at for at, labels in enumerate(found.types_met()) if root in labels])


def check_parts(root):
    """Raises TooLarge for a term with far too many unlike ground parts: each is of a type of its own."""
    many = len([node for node in unlike_nodes([root]) if node.is_ground])
    if many > FAR_TOO_MANY:
        raise TooLarge(many + 1)


def clauses_for(root):
    """The clauses by which ground terms have labels for the parts of a term that they are instances of, and its own."""
    clauses = []
    labels = {}
    built = {}
    for node in unlike_nodes([root]):
        built[node] = None
        if node.inner is not None:
            inner = tuple([built[part] for part in node.inner])
            key = (node.name, len(inner)) if inner else ("", node.name)
            if (key, inner) not in labels:
                labels[key, inner] = len(clauses)
                parts = [[] if label is None else [label] for label in inner]
                clauses.append(Clause(len(clauses), key, parts, []))
            built[node] = labels[key, inner]
    return clauses, built[root]
