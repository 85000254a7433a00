"""Shallow programs: which relations of one term hold of ground terms together, and what that tells of questions."""

from proofsizes.errors import RelationError
from proofsizes.finite import finite_terms
from proofsizes.fitting import fitted
from proofsizes.kinds import Clause, rounds_of
from proofsizes.leastterms import least_terms_of
from proofsizes.models import Model
from proofsizes.programs import OWN_NAMES
from proofsizes.sharing import are_same_dicts
from proofsizes.shelves import Shelf
from proofsizes.solving import dict_if_terms
from proofsizes.terms import as_dict, has_unknown, is_compound, is_term, is_unknown, names_in
from proofsizes.terms import unknown_text


class NotShallow(RelationError):
    """The number of a rule that isn't shallow, None for a term that isn't ground, or a question."""

    def __init__(self, number):
        self.number = number


class Has:
    """Ground terms for the unknowns of a question's goals by which all goals are so."""

    def __init__(self, terms):
        self.terms = as_dict(terms)

    def __bool__(self):
        return True

    def __eq__(self, other):
        return isinstance(other, Has) and are_same_dicts(self.terms, other.terms)

    def shows(self, program, question):
        """Whether these terms are for just the unknowns, and it is so by them."""
        found = asked_round(program, question)
        states = found.as_states()
        types_met = found.types_met()
        values = states_told(states, self.terms, asked_names(question))
        if values is None:
            return False
        return all([name in types_met[states.of_term(terms[0], values)] for name, terms in question.goals])


def states_told(states, thing, names):
    """The dict from names to the states of a dict's ground terms; None for what is no dict from just these names."""
    worth = dict_if_terms(Shelf(), thing)
    if worth is None or len(worth) != len(names) or not all([name in worth for name in names]):
        return None
    if not all([worth[name].is_ground for name in worth]):
        return None
    return {name: states.of_node(worth[name], {}) for name in worth}


def is_shallow(rule):
    """Whether a rule is shallow."""
    if len(rule.head[1]) != 1:
        return False
    head = rule.head[1][0]
    if is_compound(head):
        if not all([is_unknown(part) for part in head[1]]) or len(names_in([head])) != len(head[1]):
            return False
    return all([is_shallow_goal(goal) and is_unknown(goal[1][0]) for goal in rule.goals])


def is_shallow_goal(goal):
    """Whether a goal is a relation of one term."""
    return goal[0] not in OWN_NAMES and len(goal[1]) == 1


def check_shallow(program):
    """Raises NotShallow for the first rule that isn't shallow."""
    for number, rule in enumerate(program.rules):
        if not is_shallow(rule):
            raise NotShallow(number)


def clauses_of(program, mark):
    """The list of the clauses of a shallow program; a mark stands ahead of the names of its relations."""
    found = []
    for rule in program.rules:
        head = rule.head[1][0]
        asked = {}
        for name, terms in rule.goals:
            asked.setdefault(terms[0][1], []).append(mark + name)
        if is_compound(head):
            key, inner = (head[0], len(head[1])), names_in([head])
        elif is_unknown(head):
            key, inner = None, [head[1]]
        else:
            key, inner = ("", head), []
        parts = [asked.get(name, []) for name in inner]
        elsewhere = [asked[name] for name in asked if name not in inner]
        found.append(Clause(mark + rule.head[0], key, parts, elsewhere))
    return found


def rounds_for(program):
    """The rounds of a program's types."""
    check_shallow(program)
    return rounds_of(clauses_of(program, ""))


def check_ground(term):
    """Raises NotShallow for what is no ground term."""
    if not is_term(term) or has_unknown(term):
        raise NotShallow(None)


def types(program):
    """The ascending tuple of all types that ground terms have."""
    return rounds_for(program)[-1].types_met()


def type_of(program, term):
    """The type of a ground term."""
    check_shallow(program)
    check_ground(term)
    found = rounds_for(program)[-1]
    return found.types_met()[found.as_states().of_term(term, {})]


def model_of(program):
    """The Model whose states are the types, by their numbers."""
    return model_by(rounds_for(program)[-1])


def model_by(found):
    """The Model of a round."""
    states = found.as_states()
    rows = {(label, 1): [] for label in found.labels}
    for at, labels in enumerate(found.types_met()):
        for label in labels:
            rows[label, 1].append((at,))
    return Model(states.many, states.constants, states.other, states.compounds, states.beyond, rows)


def asked_round(program, question):
    """The last round of a program's types, if it can tell of a question."""
    check_shallow(program)
    if not all([is_shallow_goal(goal) for goal in question.goals]):
        raise NotShallow(None)
    return rounds_for(program)[-1]


def asked_names(question):
    """The names of the unknowns of a question's goals."""
    return names_in([terms[0] for _, terms in question.goals])


def judge_shallow(program, question):
    """A Has, or a Model that bars the question."""
    found = asked_round(program, question)
    types_met = found.types_met()
    asked = []
    for name, terms in question.goals:
        lets = {at: True for at, labels in enumerate(types_met) if name in labels}
        asked.append((Shelf().node_of(terms[0]), lets))
    states = found.as_states()
    worth = fitted(states, asked, list(range(states.many)))
    if worth is None:
        return model_by(found)
    least = least_terms_of(states)
    return Has({name: least[worth[name]] for name in sorted(worth, key=unknown_text)})


def least_terms(program):
    """The dict from all types, ascending, to the least term of each."""
    found = rounds_for(program)[-1]
    least = least_terms_of(found.as_states())
    return {labels: least[at] for at, labels in enumerate(found.types_met())}


def is_within(program, name, other):
    """Whether each term of a relation is one of another."""
    return all([other in labels for labels in types(program) if name in labels])


def is_empty(program, name):
    """Whether a relation has no terms."""
    return not any([name in labels for labels in types(program)])


def all_terms(program, name):
    """The list of all terms of a relation, by signs, then in order; None if there are endless many."""
    found = rounds_for(program)[-1]
    wanted = [at for at, labels in enumerate(found.types_met()) if name in labels]
    return finite_terms(found.as_states(), wanted)
