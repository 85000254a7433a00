"""Closed signatures: all ground terms are made of some constants and compounds alone."""

from proofsizes.bindings import bound_by
from proofsizes.covering import ground_nodes
from proofsizes.errors import BadTerm, RelationError
from proofsizes.filling import Cases, Filling
from proofsizes.nodes import ascending_names, dict_of_terms, matched, put_in, put_in_pairs, terms_of, unlike_nodes
from proofsizes.sharing import FEW_STEPS, are_same_dicts, are_same_rows
from proofsizes.shelves import Shelf, sides_of_rows
from proofsizes.stores import Valued, given_store
from proofsizes.terms import as_dict, as_tuple, is_constant, is_deep_term, is_integer, is_name
from proofsizes.terms import is_row, is_row_of_terms, sides_of
from proofsizes.unmet import Unmatched

MOST_CONSTANTS = 12
MOST_COMPOUNDS = 12
MOST_PARTS = 6


class BadSignature(RelationError):
    """What is wrong with a signature."""

    def __init__(self, part):
        self.part = part


class Signature:
    """Constants, and names of compounds with how many terms they have."""

    def __init__(self, constants, compounds):
        if not are_constants(constants):
            raise BadSignature("constants")
        if not are_compounds(compounds):
            raise BadSignature("compounds")
        self.constants = tuple(constants)
        self.compounds = {name: compounds[name] for name in sorted(compounds)}

    def __eq__(self, other):
        if not isinstance(other, Signature):
            return False
        return self.constants == other.constants and self.compounds == other.compounds

    def has(self, term):
        """Whether a term is made of these and of unknowns."""
        return is_deep_term(term) and self.has_all_nodes(Shelf().nodes_of([term]))

    def has_all_nodes(self, nodes):
        """Whether all terms are made of these and of unknowns."""
        return all([self.has_node(node) for node in unlike_nodes(nodes)])

    def has_node(self, node):
        """Whether a term is one of the constants, an unknown, or one of the compounds, whatever its parts are."""
        if node.inner:
            return self.compounds.get(node.name, 0) == len(node.inner)
        return node.inner is None or node.name in self.constants


class Filled:
    """Ground terms of a signature for all unknowns that fulfil equations and inequations."""

    def __init__(self, ground):
        self.ground = as_dict(ground)

    def __bool__(self):
        return True

    def __eq__(self, other):
        return isinstance(other, Filled) and are_same_dicts(self.ground, other.ground)

    def shows(self, signature, equations, inequations):
        """Whether these terms are the signature's, for just the unknowns, and fulfil all."""
        given_filling(signature, Shelf(), equations, inequations)
        if not Valued(self.ground).shows(equations, inequations):
            return False
        return has_all(signature, [self.ground[name] for name in self.ground])


class Unfilled:
    """No ground terms of a signature fulfil all."""

    def __bool__(self):
        return False

    def __eq__(self, other):
        return isinstance(other, Unfilled)

    def shows(self, signature, equations, inequations):
        """Whether it is so."""
        return not judge_filled(signature, equations, inequations)


class AllMet:
    """Each ground row that comes of some terms comes of a pattern."""

    def __bool__(self):
        return True

    def __eq__(self, other):
        return isinstance(other, AllMet)

    def shows(self, signature, terms, patterns):
        """Whether it is so."""
        return bool(judge_patterns(signature, terms, patterns))


class Unmet:
    """A ground row that comes of some terms, and of no pattern."""

    def __init__(self, row):
        self.row = as_tuple(row)

    def __bool__(self):
        return False

    def __eq__(self, other):
        return isinstance(other, Unmet) and are_same_rows(self.row, other.row, FEW_STEPS)

    def shows(self, signature, terms, patterns):
        """Whether the row is such a one, of the signature."""
        check_patterns(signature, terms, patterns)
        row = ground_nodes(self.row)
        if row is None or len(row) != len(terms) or not signature.has_all_nodes(row):
            return False
        shelf = Shelf()
        if matched(shelf.nodes_of(terms), row, {}) is None:
            return False
        return all([matched(shelf.nodes_of(pattern), row, {}) is None for pattern in patterns])


def judge_filled(signature, equations, inequations):
    """A Filled, or an Unfilled, of equations and inequations in a signature."""
    filling = Filling(signature.constants, signature.compounds, Cases())
    pairs, rows = given_filling(signature, filling.shelf, equations, inequations)
    bound = bound_by(pairs)
    if bound is None:
        return Unfilled()
    names = ascending_names(sides_of_rows([pairs] + rows))
    heads = {name: tuple(signature.compounds) for name in names if name not in bound}
    worth = filling.fill(heads, [put_in_pairs(row, bound) for row in rows])
    if worth is None:
        return Unfilled()
    nodes = put_in([worth[name] if name in worth else bound[name] for name in names], worth)
    return Filled(dict_of_terms({name: node for name, node in zip(names, nodes)}))


def judge_patterns(signature, terms, patterns):
    """An AllMet, or an Unmet, of a row of terms and a row of patterns in a signature."""
    check_patterns(signature, terms, patterns)
    row = Unmatched(signature.constants, signature.compounds).row_for(terms, patterns)
    return AllMet() if row is None else Unmet(terms_of(row))


def needless_patterns(signature, patterns):
    """The ascending tuple of the numbers of those patterns that are met by those ahead of them."""
    if not is_row(patterns):
        raise BadTerm(None)
    many = len(patterns[0]) if patterns and is_row(patterns[0]) else 0
    check_rows(signature, patterns, many)
    rows = list(patterns)
    return tuple([number for number, row in enumerate(rows) if judge_patterns(signature, row, rows[:number])])


def are_constants(thing):
    """Whether a thing is a row of unlike constants, as many as may be."""
    if not is_row(thing) or not 1 <= len(thing) <= MOST_CONSTANTS:
        return False
    return all([is_constant(constant) for constant in thing]) and len(set(thing)) == len(thing)


def are_compounds(thing):
    """Whether a thing is a dict from names, as many as may be, to numbers of terms."""
    if not isinstance(thing, dict) or len(thing) > MOST_COMPOUNDS or not all([is_name(name) for name in thing]):
        return False
    return all([is_integer(thing[name]) and 1 <= thing[name] <= MOST_PARTS for name in thing])


def has_all(signature, terms):
    """Whether all terms are a signature's."""
    return signature.has_all_nodes(Shelf().nodes_of(terms))


def given_filling(signature, shelf, equations, inequations):
    """The pairs of nodes, and rows of those, of what is given; raises BadTerm if they aren't a signature's."""
    pairs, rows = given_store(shelf, equations, inequations)
    for place, pair in enumerate(pairs):
        if not signature.has_all_nodes(pair):
            raise BadTerm(place)
    for place, row in enumerate(rows):
        if not signature.has_all_nodes(sides_of(row)):
            raise BadTerm(place)
    return pairs, rows


def check_patterns(signature, terms, patterns):
    """Raises BadTerm for what is no row of a signature's terms, or no row of rows of as many."""
    if not is_row_of_terms(terms) or not has_all(signature, terms) or not is_row(patterns):
        raise BadTerm(None)
    check_rows(signature, patterns, len(terms))


def check_rows(signature, patterns, many):
    """Raises BadTerm for the first that is no row of so many terms of a signature."""
    for place, row in enumerate(patterns):
        if not is_row_of_terms(row) or len(row) != many or not has_all(signature, row):
            raise BadTerm(place)
