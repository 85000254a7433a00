"""Whether one inequation more follows from equations and inequations."""

from proofsizes.bindings import bound_by
from proofsizes.errors import BadTerm
from proofsizes.sharing import are_same_dicts
from proofsizes.stores import Valued, check_store, judge_values
from proofsizes.terms import are_alike, as_dict, is_number_below, is_row_of_pairs, put_in_pairs


class Follows:
    """The inequation that always fails with the other one's equations; None if these can't be so at all."""

    def __init__(self, number):
        self.number = number

    def __bool__(self):
        return True

    def __eq__(self, other):
        return isinstance(other, Follows) and self.number == other.number

    def shows(self, equations, inequations, other):
        """Whether it is so with this number."""
        check_following(equations, inequations, other)
        bound = bound_by(list(equations) + list(other))
        if self.number is None or bound is None:
            return self.number is None and bound is None
        if not is_number_below(self.number, len(inequations)):
            return False
        return are_alike(put_in_pairs(inequations[self.number], bound))


class Against:
    """Ground terms for all unknowns by which all holds, but for the other inequation."""

    def __init__(self, ground):
        self.ground = as_dict(ground)

    def __bool__(self):
        return False

    def __eq__(self, other):
        return isinstance(other, Against) and are_same_dicts(self.ground, other.ground)

    def shows(self, equations, inequations, other):
        """Whether these terms are for just the unknowns, and it is so by them."""
        check_following(equations, inequations, other)
        return Valued(self.ground).shows(list(equations) + list(other), inequations)


def judge_follows(equations, inequations, other):
    """A Follows, or an Against, of equations and inequations and one inequation more."""
    check_following(equations, inequations, other)
    # The other one fails just if its equations hold, so these are asked with the given ones.
    paper = judge_values(list(equations) + list(other), inequations)
    return Against(paper.ground) if paper else Follows(paper.number)


def check_following(equations, inequations, other):
    """Raises BadTerm for what are no equations, or no inequations."""
    check_store(equations, inequations)
    if not is_row_of_pairs(other):
        raise BadTerm(None)
