"""Equal ground terms: equations that may make any of them the same, and what that makes the same."""

from proofsizes.classes import Classes
from proofsizes.errors import BadTerm, TooLarge
from proofsizes.linking import Paper
from proofsizes.nodes import terms_of, unlike_nodes
from proofsizes.ordering import ascending
from proofsizes.sharing import FEW_STEPS, are_same_rows
from proofsizes.shelves import Shelf
from proofsizes.solving import given_pairs, is_step_shape, led_to
from proofsizes.terms import MOST_WITHIN, as_dict, as_tuple, is_constant, is_integer, is_name, is_number_below
from proofsizes.terms import is_pair_shape, is_row


class Equal:
    """Steps that lead from equations to a pair."""

    def __init__(self, steps):
        self.steps = as_tuple(steps)

    def __bool__(self):
        return True

    def __eq__(self, other):
        return isinstance(other, Equal) and are_same_rows(self.steps, other.steps, FEW_STEPS)

    def shows(self, equations, pair):
        """Whether the steps lead to the pair."""
        # On a shelf the same terms are one node, so steps can be joined by it.
        shelf = Shelf()
        given, asked = given_with_pair(shelf, equations, pair)
        if not isinstance(self.steps, tuple) or not self.steps:
            return False
        pairs = []
        for step in self.steps:
            led = led_to_ground(step, given, pairs, shelf)
            if led is None:
                return False
            pairs.append(led)
        return pairs[-1] == asked


class Apart:
    """States of all ground terms, by which the sides of equations are the same, and those of a pair aren't."""

    def __init__(self, constants, compounds, beyond):
        self.constants = as_dict(constants)
        self.compounds = as_dict(compounds)
        self.beyond = beyond

    def __bool__(self):
        return False

    def __eq__(self, other):
        if not isinstance(other, Apart):
            return False
        if self.constants != other.constants or self.compounds != other.compounds:
            return False
        return self.beyond == other.beyond

    def state(self, term):
        """The state of a ground term."""
        return self.state_of_node(Shelf().node_of(term))

    def state_of_node(self, root):
        """The state of a ground term's node."""
        states = {}
        for node in unlike_nodes([root]):
            if node.inner:
                inner = tuple([states[part] for part in node.inner])
                states[node] = self.compounds.get((node.name, inner), self.beyond)
            else:
                states[node] = self.constants.get(node.name, self.beyond)
        return states[root]

    def shows(self, equations, pair):
        """Whether the states are so."""
        given, asked = given_with_pair(Shelf(), equations, pair)
        if not is_integer(self.beyond) or not are_states(self.constants) or not are_states(self.compounds):
            return False
        if not all([is_constant(constant) for constant in self.constants]):
            return False
        if not all([is_compound_of_states(compound) for compound in self.compounds]):
            return False
        if any([self.state_of_node(one) != self.state_of_node(other) for one, other in given]):
            return False
        return self.state_of_node(asked[0]) != self.state_of_node(asked[1])


def judge_equal(equations, pair):
    """An Equal, or an Apart, of equations between ground terms and a pair of such."""
    given, asked = given_with_pair(Shelf(), equations, pair)
    classes = Classes(given, asked)
    one, other = classes.number_of(asked[0]), classes.number_of(asked[1])
    if classes.leader(one) != classes.leader(other):
        constants, compounds = classes.states()
        return Apart(constants, compounds, len(classes.ways))
    paper = Paper(classes)
    paper.prepare([(one, other)])
    paper.step_for(one, other)
    return Equal(paper.steps)


def classes_of(equations, terms):
    """The ascending list of the ascending tuples of those terms of a row that are the same, each once."""
    shelf = Shelf()
    given = given_ground(shelf, equations)
    if not is_row(terms):
        raise BadTerm(None)
    nodes = ground_row(shelf, terms)
    classes = Classes(given, nodes)
    rows = {}
    for number in sorted(set([classes.number_of(node) for node in nodes])):
        rows.setdefault(classes.leader(number), []).append(classes.nodes[number])
    found = [ascending_nodes(rows[leader]) for leader in rows]
    return [tuple(terms_of(row)) for row in ascending(found, found)]


def least_equal(equations, term):
    """The ground term with the fewest signs, then the first one, of those that are the same as a term."""
    classes, leader = classes_with(equations, term)
    return terms_of([classes.least_terms()[leader]])[0]


def equal_terms(equations, term, signs):
    """The ascending list of all ground terms with so many signs that are the same as a term."""
    classes, leader = classes_with(equations, term)
    if not is_integer(signs) or signs < 1:
        raise TooLarge(signs)
    return terms_of(ascending_nodes(classes.terms_of_signs(leader, signs)))


def are_endless(equations, term):
    """Whether there are endless many ground terms that are the same as a term."""
    classes, leader = classes_with(equations, term)
    return classes.are_endless(leader)


def given_ground(shelf, equations):
    """The list of the pairs of nodes of equations; raises BadTerm for what is no row of pairs of ground terms."""
    pairs = given_pairs(shelf, equations)
    for place, (one, other) in enumerate(pairs):
        if not one.is_ground or not other.is_ground:
            raise BadTerm(place)
    return pairs


def ground_row(shelf, terms):
    """The list of the nodes of a row of ground terms; raises BadTerm for what is none."""
    nodes = shelf.nodes_if_terms(terms, MOST_WITHIN)
    if nodes is None or not all([node.is_ground for node in nodes]):
        raise BadTerm(None)
    return nodes


def given_with_pair(shelf, equations, pair):
    """The pairs of nodes of equations, and of a pair; raises BadTerm for what are no such ones of ground terms."""
    pairs = given_ground(shelf, equations)
    if not is_pair_shape(pair):
        raise BadTerm(None)
    return pairs, tuple(ground_row(shelf, pair))


def classes_with(equations, term):
    """The classes that equations make, with a term among those of which they tell, and the leader of its class."""
    shelf = Shelf()
    pairs = given_ground(shelf, equations)
    nodes = ground_row(shelf, [term])
    classes = Classes(pairs, nodes)
    return classes, classes.leader(classes.number_of(nodes[0]))


def ascending_nodes(nodes):
    """The list of terms in their order."""
    return ascending(nodes, [[node] for node in nodes])


def led_to_ground(step, equations, pairs, shelf):
    """The pair of ground terms on a shelf that a step leads to, behind earlier ones; None if it leads to none."""
    if not isinstance(step, tuple) or not 2 <= len(step) <= 3 or not isinstance(step[0], str):
        return None
    if step[0] == "same" and len(step) == 2:
        nodes = shelf.nodes_if_terms([step[1]], None)
        return None if nodes is None or not nodes[0].is_ground else (nodes[0], nodes[0])
    if step[0] == "inside" and len(step) == 3:
        return led_around(step[1], step[2], pairs, shelf)
    if step[0] not in ("given", "turned", "joined") or not is_step_shape(step):
        return None
    return led_to(step, equations, pairs)


def led_around(name, numbers, pairs, shelf):
    """The pair of the compounds of a name whose parts are sides of earlier pairs; None if there is none."""
    if not is_name(name) or not isinstance(numbers, tuple) or not numbers:
        return None
    if not all([is_number_below(number, len(pairs)) for number in numbers]):
        return None
    sides = [pairs[number] for number in numbers]
    first = shelf.node_for(name, tuple([one for one, _ in sides]))
    return first, shelf.node_for(name, tuple([other for _, other in sides]))


def are_states(thing):
    """Whether a thing is a dict to states."""
    return isinstance(thing, dict) and all([is_integer(thing[key]) for key in thing])


def is_compound_of_states(thing):
    """Whether a thing is a pair of a name and a tuple of parts' states."""
    if not isinstance(thing, tuple) or len(thing) != 2 or not is_name(thing[0]):
        return False
    return isinstance(thing[1], tuple) and len(thing[1]) > 0 and all([is_integer(state) for state in thing[1]])
