"""Whether one inequation more follows from equations and inequations."""

from proofsizes.bindings import bound_by
from proofsizes.errors import BadTerm
from proofsizes.sharing import are_same_dicts
from proofsizes.shelves import Shelf
from proofsizes.stores import Valued, always_fails, given_store, judge_values
from proofsizes.terms import as_dict, is_number_below


class Follows:
    """The inequation that always fails with the other one's equations; None if these can't be so at all."""

    def __init__(self, number):
        self.number = number

    def __bool__(self):
        return True

    def __eq__(self, other):
        return isinstance(other, Follows) and self.number == other.number

    def shows(self, equations, inequations, other):
        """Whether it is so with this number."""
        pairs, rows, more = given_following(equations, inequations, other)
        if self.number is None:
            return bound_by(pairs + more) is None
        return is_number_below(self.number, len(rows)) and always_fails(pairs + more, rows[self.number])


class Against:
    """Ground terms for all unknowns by which all holds, but for the other inequation."""

    def __init__(self, ground):
        self.ground = as_dict(ground)

    def __bool__(self):
        return False

    def __eq__(self, other):
        return isinstance(other, Against) and are_same_dicts(self.ground, other.ground)

    def shows(self, equations, inequations, other):
        """Whether these terms are for just the unknowns, and it is so by them."""
        given_following(equations, inequations, other)
        return Valued(self.ground).shows(list(equations) + list(other), inequations)


def judge_follows(equations, inequations, other):
    """A Follows, or an Against, of equations and inequations and one inequation more."""
    given_following(equations, inequations, other)
    # The other one fails just if its equations hold, so these are asked with the given ones.
    paper = judge_values(list(equations) + list(other), inequations)
    return Against(paper.ground) if paper else Follows(paper.number)


def given_following(equations, inequations, other):
    """The pairs of nodes of equations, the rows of those of inequations, and those of the other one; raises BadTerm."""
    shelf = Shelf()
    pairs, rows = given_store(shelf, equations, inequations)
    more = shelf.rows_if_terms([other])
    if more is None:
        raise BadTerm(None)
    return pairs, rows, more[0]
