"""Closed signatures: all ground terms are made of some constants and compounds alone."""

from proofsizes.bindings import bound_by
from proofsizes.errors import BadTerm, RelationError
from proofsizes.filling import Cases, Filling
from proofsizes.stores import Valued, check_store, terms_of
from proofsizes.terms import as_dict, as_tuple, ascending_names, is_compound, is_constant, is_deep_term
from proofsizes.terms import is_ground_term, is_integer, is_name, is_row, is_row_of_terms, is_unknown, matched
from proofsizes.terms import parts_of, put_in, put_in_pairs, sides_of
from proofsizes.unmet import Unmatched

MOST_CONSTANTS = 12
MOST_COMPOUNDS = 12
MOST_PARTS = 6


class BadSignature(RelationError):
    """What is wrong with a signature."""

    def __init__(self, part):
        self.part = part


class Signature:
    """Constants, and names of compounds with how many terms they have."""

    def __init__(self, constants, compounds):
        if not are_constants(constants):
            raise BadSignature("constants")
        if not are_compounds(compounds):
            raise BadSignature("compounds")
        self.constants = tuple(constants)
        self.compounds = {name: compounds[name] for name in sorted(compounds)}

    def __eq__(self, other):
        if not isinstance(other, Signature):
            return False
        return self.constants == other.constants and self.compounds == other.compounds

    def has(self, term):
        """Whether a term is made of these and of unknowns."""
        if not is_deep_term(term):
            return False
        for part in parts_of(term):
            if is_compound(part):
                if self.compounds.get(part[0], 0) != len(part[1]):
                    return False
            elif not is_unknown(part) and part not in self.constants:
                return False
        return True


class Filled:
    """Ground terms of a signature for all unknowns that fulfil equations and inequations."""

    def __init__(self, ground):
        self.ground = as_dict(ground)

    def __bool__(self):
        return True

    def __eq__(self, other):
        return isinstance(other, Filled) and self.ground == other.ground

    def shows(self, signature, equations, inequations):
        """Whether these terms are the signature's, for just the unknowns, and fulfil all."""
        check_filling(signature, equations, inequations)
        if not Valued(self.ground).shows(equations, inequations):
            return False
        return all([signature.has(self.ground[name]) for name in self.ground])


class Unfilled:
    """No ground terms of a signature fulfil all."""

    def __bool__(self):
        return False

    def __eq__(self, other):
        return isinstance(other, Unfilled)

    def shows(self, signature, equations, inequations):
        """Whether it is so."""
        return not judge_filled(signature, equations, inequations)


class AllMet:
    """Each ground row that comes of some terms comes of a pattern."""

    def __bool__(self):
        return True

    def __eq__(self, other):
        return isinstance(other, AllMet)

    def shows(self, signature, terms, patterns):
        """Whether it is so."""
        return bool(judge_patterns(signature, terms, patterns))


class Unmet:
    """A ground row that comes of some terms, and of no pattern."""

    def __init__(self, row):
        self.row = as_tuple(row)

    def __bool__(self):
        return False

    def __eq__(self, other):
        return isinstance(other, Unmet) and self.row == other.row

    def shows(self, signature, terms, patterns):
        """Whether the row is such a one, of the signature."""
        check_patterns(signature, terms, patterns)
        if not isinstance(self.row, tuple) or len(self.row) != len(terms):
            return False
        if not all([is_ground_term(term) and signature.has(term) for term in self.row]):
            return False
        if matched(terms, self.row, {}) is None:
            return False
        return all([matched(pattern, self.row, {}) is None for pattern in patterns])


def judge_filled(signature, equations, inequations):
    """A Filled, or an Unfilled, of equations and inequations in a signature."""
    check_filling(signature, equations, inequations)
    bound = bound_by(equations)
    if bound is None:
        return Unfilled()
    names = ascending_names(terms_of(equations, inequations))
    heads = {name: tuple(signature.compounds) for name in names if name not in bound}
    filling = Filling(signature.constants, signature.compounds, Cases())
    worth = filling.fill(heads, [put_in_pairs(pairs, bound) for pairs in inequations])
    if worth is None:
        return Unfilled()
    return Filled({name: worth[name] if name in worth else put_in(bound[name], worth) for name in names})


def judge_patterns(signature, terms, patterns):
    """An AllMet, or an Unmet, of a row of terms and a row of patterns in a signature."""
    check_patterns(signature, terms, patterns)
    row = Unmatched(signature.constants, signature.compounds).row_for(terms, patterns)
    return AllMet() if row is None else Unmet(row)


def needless_patterns(signature, patterns):
    """The ascending tuple of the numbers of those patterns that are met by those ahead of them."""
    if not is_row(patterns):
        raise BadTerm(None)
    many = len(patterns[0]) if patterns and is_row(patterns[0]) else 0
    check_rows(signature, patterns, many)
    rows = list(patterns)
    return tuple([number for number, row in enumerate(rows) if judge_patterns(signature, row, rows[:number])])


def are_constants(thing):
    """Whether a thing is a row of unlike constants, as many as may be."""
    if not is_row(thing) or not 1 <= len(thing) <= MOST_CONSTANTS:
        return False
    return all([is_constant(constant) for constant in thing]) and len(set(thing)) == len(thing)


def are_compounds(thing):
    """Whether a thing is a dict from names, as many as may be, to numbers of terms."""
    if not isinstance(thing, dict) or len(thing) > MOST_COMPOUNDS or not all([is_name(name) for name in thing]):
        return False
    return all([is_integer(thing[name]) and 1 <= thing[name] <= MOST_PARTS for name in thing])


def has_all(signature, terms):
    """Whether all terms are a signature's."""
    return all([signature.has(term) for term in terms])


def check_filling(signature, equations, inequations):
    """Raises BadTerm for what are no equations, or no inequations, of a signature's terms."""
    check_store(equations, inequations)
    for place, pair in enumerate(equations):
        if not has_all(signature, pair):
            raise BadTerm(place)
    for place, pairs in enumerate(inequations):
        if not has_all(signature, sides_of(pairs)):
            raise BadTerm(place)


def check_patterns(signature, terms, patterns):
    """Raises BadTerm for what is no row of a signature's terms, or no row of rows of as many."""
    if not is_row_of_terms(terms) or not has_all(signature, terms) or not is_row(patterns):
        raise BadTerm(None)
    check_rows(signature, patterns, len(terms))


def check_rows(signature, patterns, many):
    """Raises BadTerm for the first that is no row of so many terms of a signature."""
    for place, row in enumerate(patterns):
        if not is_row_of_terms(row) or len(row) != many or not has_all(signature, row):
            raise BadTerm(place)
