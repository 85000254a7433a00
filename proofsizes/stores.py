"""Equations and inequations together: ground terms that fulfil them, or why there are none."""

from proofsizes.bindings import bound_by
from proofsizes.errors import BadTerm
from proofsizes.nodes import are_alike, ascending_names, dict_of_terms, put_in, put_in_pairs, unknown_node
from proofsizes.nodes import unlike_constants
from proofsizes.sharing import are_same_dicts
from proofsizes.shelves import Shelf, sides_of_rows
from proofsizes.solving import Unsolved, dict_if_terms, given_pairs, solve
from proofsizes.terms import as_dict, is_number_below, is_row, is_row_of_pairs, name_key


class Valued:
    """Ground terms for all unknowns that fulfil equations and inequations."""

    def __init__(self, ground):
        self.ground = as_dict(ground)

    def __bool__(self):
        return True

    def __eq__(self, other):
        return isinstance(other, Valued) and are_same_dicts(self.ground, other.ground)

    def shows(self, equations, inequations):
        """Whether these terms are for just the unknowns, and fulfil all."""
        shelf = Shelf()
        pairs, rows = given_store(shelf, equations, inequations)
        worth = dict_if_terms(shelf, self.ground)
        if worth is None or not all([worth[name].is_ground for name in worth]):
            return False
        if sorted(worth, key=name_key) != ascending_names(sides_of_rows([pairs] + rows)):
            return False
        if not are_alike(put_in_pairs(pairs, worth)):
            return False
        return not any([are_alike(put_in_pairs(row, worth)) for row in rows])


class NoValues:
    """Why no terms fulfil all: equations that can't be solved, or an inequation that always fails."""

    def __init__(self, number, paper):
        self.number = number
        self.paper = paper

    def __bool__(self):
        return False

    def __eq__(self, other):
        return isinstance(other, NoValues) and self.number == other.number and self.paper == other.paper

    def shows(self, equations, inequations):
        """Whether the equations, or the inequation with the number, can't be so."""
        pairs, rows = given_store(Shelf(), equations, inequations)
        if self.number is None:
            return isinstance(self.paper, Unsolved) and self.paper.shows(equations)
        if self.paper is not None or not is_number_below(self.number, len(rows)):
            return False
        return always_fails(pairs, rows[self.number])


def judge_values(equations, inequations):
    """A Valued, or a NoValues, of equations and inequations."""
    pairs, rows = given_store(Shelf(), equations, inequations)
    bound = bound_by(pairs)
    if bound is None:
        return NoValues(None, solve(equations))
    for number, row in enumerate(rows):
        if are_alike(put_in_pairs(row, bound)):
            return NoValues(number, None)
    nodes = sides_of_rows([pairs] + rows)
    names = ascending_names(nodes)
    free = unlike_constants([name for name in names if name not in bound], nodes)
    worth = put_in([bound.get(name, unknown_node(name)) for name in names], free)
    return Valued(dict_of_terms({name: node for name, node in zip(names, worth)}))


def always_fails(equations, pairs):
    """Whether equations can be solved, and both sides of all of some pairs of nodes are the same then."""
    bound = bound_by(equations)
    return bound is not None and are_alike(put_in_pairs(pairs, bound))


def given_store(shelf, equations, inequations):
    """The pairs of nodes of equations, and the rows of those of inequations; raises BadTerm for what are none."""
    pairs = given_pairs(shelf, equations)
    if not is_row(inequations):
        raise BadTerm(None)
    rows = shelf.rows_if_terms(inequations)
    if rows is None:
        raise BadTerm([is_row_of_pairs(row) for row in inequations].index(False))
    return pairs, rows
