"""Equal ground terms: equations that may make any of them the same, and what that makes the same."""

from proofsizes.classes import Classes
from proofsizes.errors import BadTerm, TooLarge
from proofsizes.linking import Paper
from proofsizes.solving import check_equations, is_step_shape, led_to
from proofsizes.terms import as_dict, as_tuple, is_compound, is_constant, is_ground_term, is_integer, is_name
from proofsizes.terms import is_number_below, is_pair, is_row, is_term, parts_of, terms_key


class Equal:
    """Steps that lead from equations to a pair."""

    def __init__(self, steps):
        self.steps = as_tuple(steps)

    def __bool__(self):
        return True

    def __eq__(self, other):
        return isinstance(other, Equal) and self.steps == other.steps

    def shows(self, equations, pair):
        """Whether the steps lead to the pair."""
        check_pair(equations, pair)
        if not isinstance(self.steps, tuple) or not self.steps:
            return False
        pairs = []
        for step in self.steps:
            led = led_to_ground(step, equations, pairs)
            if led is None:
                return False
            pairs.append(led)
        return pairs[-1] == pair


class Apart:
    """States of all ground terms, by which the sides of equations are the same, and those of a pair aren't."""

    def __init__(self, constants, compounds, beyond):
        self.constants = as_dict(constants)
        self.compounds = as_dict(compounds)
        self.beyond = beyond

    def __bool__(self):
        return False

    def __eq__(self, other):
        if not isinstance(other, Apart):
            return False
        if self.constants != other.constants or self.compounds != other.compounds:
            return False
        return self.beyond == other.beyond

    def state(self, term):
        """The state of a ground term."""
        built = []
        for part in reversed(parts_of(term)):
            if is_compound(part):
                many = len(part[1])
                inner = tuple(built[-many:][::-1])
                del built[-many:]
                built.append(self.compounds.get((part[0], inner), self.beyond))
            else:
                built.append(self.constants.get(part, self.beyond))
        return built[0]

    def shows(self, equations, pair):
        """Whether the states are so."""
        check_pair(equations, pair)
        if not is_integer(self.beyond) or not are_states(self.constants) or not are_states(self.compounds):
            return False
        if not all([is_constant(constant) for constant in self.constants]):
            return False
        if not all([is_compound_of_states(compound) for compound in self.compounds]):
            return False
        if any([self.state(one) != self.state(other) for one, other in equations]):
            return False
        return self.state(pair[0]) != self.state(pair[1])


def judge_equal(equations, pair):
    """An Equal, or an Apart, of equations between ground terms and a pair of such."""
    check_pair(equations, pair)
    classes = Classes(equations, pair)
    one, other = classes.number_of(pair[0]), classes.number_of(pair[1])
    if classes.leader(one) != classes.leader(other):
        constants, compounds = classes.states()
        return Apart(constants, compounds, len(classes.ways))
    paper = Paper(classes)
    paper.prepare([(one, other)])
    paper.step_for(one, other)
    return Equal(paper.steps)


def classes_of(equations, terms):
    """The ascending list of the ascending tuples of those terms of a row that are the same, each once."""
    check_ground(equations)
    if not is_row(terms) or not all([is_handed_in(term) for term in terms]):
        raise BadTerm(None)
    classes = Classes(equations, terms)
    rows = {}
    for number in sorted(set([classes.number_of(term) for term in terms])):
        rows.setdefault(classes.leader(number), []).append(classes.terms[number])
    found = [tuple(ascending(rows[leader])) for leader in rows]
    return sorted(found, key=terms_key)


def least_equal(equations, term):
    """The ground term with the fewest signs, then the first one, of those that are the same as a term."""
    classes = classes_with(equations, term)
    return classes.least_terms()[classes.class_of(term)]


def equal_terms(equations, term, signs):
    """The ascending list of all ground terms with so many signs that are the same as a term."""
    classes = classes_with(equations, term)
    if not is_integer(signs) or signs < 1:
        raise TooLarge(signs)
    return ascending(classes.terms_of_signs(classes.class_of(term), signs))


def are_endless(equations, term):
    """Whether there are endless many ground terms that are the same as a term."""
    classes = classes_with(equations, term)
    return classes.are_endless(classes.class_of(term))


def check_ground(equations):
    """Raises BadTerm for what is no row of pairs of ground terms."""
    check_equations(equations)
    for place, (one, other) in enumerate(equations):
        if not is_ground_term(one) or not is_ground_term(other):
            raise BadTerm(place)


def is_handed_in(thing):
    """Whether a thing is a ground term that may be handed in."""
    return is_term(thing) and is_ground_term(thing)


def check_pair(equations, pair):
    """Raises BadTerm for what are no equations of ground terms, or no pair of such."""
    check_ground(equations)
    if not is_pair(pair) or not is_ground_term(pair[0]) or not is_ground_term(pair[1]):
        raise BadTerm(None)


def classes_with(equations, term):
    """The classes that equations make, with a term among those of which they tell."""
    check_ground(equations)
    if not is_handed_in(term):
        raise BadTerm(None)
    return Classes(equations, [term])


def ascending(terms):
    """The list of terms in their order."""
    return sorted(terms, key=lambda term: terms_key([term]))


def led_to_ground(step, equations, pairs):
    """The pair of ground terms that a step leads to, behind earlier ones; None if it leads to none."""
    if not isinstance(step, tuple) or not 2 <= len(step) <= 3 or not isinstance(step[0], str):
        return None
    if step[0] == "same" and len(step) == 2:
        return (step[1], step[1]) if is_ground_term(step[1]) else None
    if step[0] == "inside" and len(step) == 3:
        return led_around(step[1], step[2], pairs)
    if step[0] not in ("given", "turned", "joined") or not is_step_shape(step):
        return None
    return led_to(step, equations, pairs)


def led_around(name, numbers, pairs):
    """The pair of the compounds of a name whose parts are sides of earlier pairs; None if there is none."""
    if not is_name(name) or not isinstance(numbers, tuple) or not numbers:
        return None
    if not all([is_number_below(number, len(pairs)) for number in numbers]):
        return None
    sides = [pairs[number] for number in numbers]
    return (name, tuple([one for one, _ in sides])), (name, tuple([other for _, other in sides]))


def are_states(thing):
    """Whether a thing is a dict to states."""
    return isinstance(thing, dict) and all([is_integer(thing[key]) for key in thing])


def is_compound_of_states(thing):
    """Whether a thing is a pair of a name and a tuple of parts' states."""
    if not isinstance(thing, tuple) or len(thing) != 2 or not is_name(thing[0]):
        return False
    return isinstance(thing[1], tuple) and len(thing[1]) > 0 and all([is_integer(state) for state in thing[1]])
