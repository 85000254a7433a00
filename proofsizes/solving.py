"""Equations between terms: what solves them, or why nothing does."""

from proofsizes.bindings import bound_by
from proofsizes.errors import BadTerm
from proofsizes.refuting import refuted
from proofsizes.sharing import are_same_dicts
from proofsizes.terms import as_dict, as_tuple, is_compound, is_deep_term, is_integer, is_number_below
from proofsizes.terms import is_pair, is_row, is_unknown, is_unknown_name, have_like_heads, parts_of


class Solved:
    """Terms for unknowns that make both sides of all pairs the same, in the most general way."""

    def __init__(self, bound):
        self.bound = as_dict(bound)

    def __bool__(self):
        return True

    def __eq__(self, other):
        return isinstance(other, Solved) and are_same_dicts(self.bound, other.bound)

    def shows(self, equations):
        """Whether the equations are solved just so."""
        check_equations(equations)
        if not is_dict_of_terms(self.bound):
            return False
        bound = bound_by(equations)
        return bound is not None and list(bound) == list(self.bound) and are_same_dicts(bound, self.bound)


class Unsolved:
    """Steps from equations to one that can't be so, or to a ring of unknowns within themselves."""

    def __init__(self, steps, ring):
        self.steps = as_tuple(steps)
        self.ring = as_tuple(ring)

    def __bool__(self):
        return False

    def __eq__(self, other):
        return isinstance(other, Unsolved) and self.steps == other.steps and self.ring == other.ring

    def shows(self, equations):
        """Whether the steps lead from the equations to what can't be so."""
        check_equations(equations)
        pairs = led_by(self.steps, equations)
        if not pairs or not isinstance(self.ring, tuple):
            return False
        if self.ring == ():
            return is_clash(pairs[-1])
        if not all([is_number_below(number, len(pairs)) for number in self.ring]):
            return False
        return is_ring([pairs[number] for number in self.ring])


def solve(equations):
    """A Solved, or an Unsolved, of a row of pairs of terms."""
    check_equations(equations)
    bound = bound_by(equations)
    if bound is not None:
        return Solved(bound)
    steps, ring = refuted(equations)
    return Unsolved(steps, ring)


def check_equations(equations):
    """Raises BadTerm for what is no row of pairs of terms."""
    if not is_row(equations):
        raise BadTerm(None)
    for place, pair in enumerate(equations):
        if not is_pair(pair):
            raise BadTerm(place)


def is_dict_of_terms(thing):
    """Whether a thing is a dict from names of unknowns to terms."""
    if not isinstance(thing, dict):
        return False
    return all([is_unknown_name(name) and is_deep_term(thing[name]) for name in thing])


def led_by(steps, equations):
    """The list of the pairs that steps lead to; None if they aren't such steps."""
    if not isinstance(steps, tuple):
        return None
    pairs = []
    for step in steps:
        if not is_step_shape(step):
            return None
        pair = led_to(step, equations, pairs)
        if pair is None:
            return None
        pairs.append(pair)
    return pairs


def is_step_shape(step):
    """Whether a thing is a word and numbers in a tuple."""
    if not isinstance(step, tuple) or not 2 <= len(step) <= 3 or not isinstance(step[0], str):
        return False
    return all([is_integer(number) for number in step[1:]])


def led_to(step, equations, pairs):
    """The pair that a step leads to, behind earlier ones; None if it leads to none."""
    word = step[0]
    if word == "given" and len(step) == 2:
        return equations[step[1]] if is_number_below(step[1], len(equations)) else None
    if not is_number_below(step[1], len(pairs)):
        return None
    one, other = pairs[step[1]]
    if word == "turned" and len(step) == 2:
        return other, one
    if word == "part" and len(step) == 3:
        return led_inside(one, other, step[2])
    if word == "joined" and len(step) == 3 and is_number_below(step[2], len(pairs)):
        between, last = pairs[step[2]]
        return (one, last) if other == between else None
    return None


def led_inside(one, other, at):
    """The pair of the parts with a number of two compounds that are alike; None if there is none."""
    if not is_compound(one) or not have_like_heads(one, other):
        return None
    return (one[1][at], other[1][at]) if is_number_below(at, len(one[1])) else None


def is_clash(pair):
    """Whether both sides are no unknowns, with unlike heads."""
    one, other = pair
    if is_unknown(one) or is_unknown(other):
        return False
    if is_compound(one):
        return not have_like_heads(one, other)
    return one != other


def is_ring(pairs):
    """Whether first sides are unknowns, each in the second side of the pair ahead, round."""
    for at, (one, _) in enumerate(pairs):
        if not is_unknown(one) or one not in parts_of(pairs[at - 1][1]):
            return False
    return any([is_compound(other) for _, other in pairs])
