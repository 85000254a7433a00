"""Equations and inequations together: ground terms that fulfil them, or why there are none."""

from proofsizes.bindings import bound_by
from proofsizes.errors import BadTerm
from proofsizes.sharing import are_same_dicts
from proofsizes.solving import Unsolved, check_equations, is_dict_of_terms, solve
from proofsizes.terms import are_alike, as_dict, ascending_names, is_ground_term, is_number_below, is_row
from proofsizes.terms import is_row_of_pairs, name_key, put_in_pairs, put_in_row, sides_of, unlike_constants


class Valued:
    """Ground terms for all unknowns that fulfil equations and inequations."""

    def __init__(self, ground):
        self.ground = as_dict(ground)

    def __bool__(self):
        return True

    def __eq__(self, other):
        return isinstance(other, Valued) and are_same_dicts(self.ground, other.ground)

    def shows(self, equations, inequations):
        """Whether these terms are for just the unknowns, and fulfil all."""
        check_store(equations, inequations)
        if not is_dict_of_terms(self.ground):
            return False
        if not all([is_ground_term(self.ground[name]) for name in self.ground]):
            return False
        if sorted(self.ground, key=name_key) != ascending_names(terms_of(equations, inequations)):
            return False
        if not are_alike(put_in_pairs(equations, self.ground)):
            return False
        return not any([are_alike(put_in_pairs(pairs, self.ground)) for pairs in inequations])


class NoValues:
    """Why no terms fulfil all: equations that can't be solved, or an inequation that always fails."""

    def __init__(self, number, paper):
        self.number = number
        self.paper = paper

    def __bool__(self):
        return False

    def __eq__(self, other):
        return isinstance(other, NoValues) and self.number == other.number and self.paper == other.paper

    def shows(self, equations, inequations):
        """Whether the equations, or the inequation with the number, can't be so."""
        check_store(equations, inequations)
        if self.number is None:
            return isinstance(self.paper, Unsolved) and self.paper.shows(equations)
        if self.paper is not None or not is_number_below(self.number, len(inequations)):
            return False
        bound = bound_by(equations)
        return bound is not None and are_alike(put_in_pairs(inequations[self.number], bound))


def judge_values(equations, inequations):
    """A Valued, or a NoValues, of equations and inequations."""
    check_store(equations, inequations)
    bound = bound_by(equations)
    if bound is None:
        return NoValues(None, solve(equations))
    for number, pairs in enumerate(inequations):
        if are_alike(put_in_pairs(pairs, bound)):
            return NoValues(number, None)
    terms = terms_of(equations, inequations)
    names = ascending_names(terms)
    free = unlike_constants([name for name in names if name not in bound], terms)
    terms = put_in_row([bound.get(name, ("?", name)) for name in names], free)
    return Valued({name: term for name, term in zip(names, terms)})


def check_store(equations, inequations):
    """Raises BadTerm for what are no equations, or no inequations."""
    check_equations(equations)
    if not is_row(inequations):
        raise BadTerm(None)
    for place, pairs in enumerate(inequations):
        if not is_row_of_pairs(pairs):
            raise BadTerm(place)


def terms_of(equations, inequations):
    """All terms that are sides of pairs."""
    return sides_of(equations) + [term for pairs in inequations for term in sides_of(pairs)]
