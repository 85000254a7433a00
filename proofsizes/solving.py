"""Equations between terms: what solves them, or why nothing does."""

from proofsizes.bindings import bound_by
from proofsizes.errors import BadTerm
from proofsizes.nodes import are_headed_alike, dict_of_terms, unlike_nodes
from proofsizes.refuting import refuted
from proofsizes.sharing import FEW_STEPS, are_same_dicts, are_same_rows
from proofsizes.shelves import Shelf
from proofsizes.terms import as_dict, as_tuple, is_integer, is_number_below, is_pair, is_row, is_unknown_name


class Solved:
    """Terms for unknowns that make both sides of all pairs the same, in the most general way."""

    def __init__(self, bound):
        self.bound = as_dict(bound)

    def __bool__(self):
        return True

    def __eq__(self, other):
        return isinstance(other, Solved) and are_same_dicts(self.bound, other.bound)

    def shows(self, equations):
        """Whether the equations are solved just so."""
        shelf = Shelf()
        pairs = given_pairs(shelf, equations)
        told = dict_if_terms(shelf, self.bound)
        bound = bound_by(pairs)
        if told is None or bound is None or list(bound) != list(told):
            return False
        return shelf.copies_of([bound[name] for name in bound]) == [told[name] for name in bound]


class Unsolved:
    """Steps from equations to one that can't be so, or to a ring of unknowns within themselves."""

    def __init__(self, steps, ring):
        self.steps = as_tuple(steps)
        self.ring = as_tuple(ring)

    def __bool__(self):
        return False

    def __eq__(self, other):
        if not isinstance(other, Unsolved):
            return False
        return are_same_rows(self.steps, other.steps, FEW_STEPS) and are_same_rows(self.ring, other.ring, FEW_STEPS)

    def shows(self, equations):
        """Whether the steps lead from the equations to what can't be so."""
        # On a shelf the same terms are one node, so steps can be joined by it.
        pairs = led_by(self.steps, given_pairs(Shelf(), equations))
        if not pairs or not isinstance(self.ring, tuple):
            return False
        if self.ring == ():
            return is_clash(pairs[-1])
        if not all([is_number_below(number, len(pairs)) for number in self.ring]):
            return False
        return is_ring([pairs[number] for number in self.ring])


def solve(equations):
    """A Solved, or an Unsolved, of a row of pairs of terms."""
    pairs = given_pairs(Shelf(), equations)
    bound = bound_by(pairs)
    if bound is not None:
        return Solved(dict_of_terms(bound))
    steps, ring = refuted(pairs)
    return Unsolved(steps, ring)


def given_pairs(shelf, equations):
    """The list of the pairs of nodes of equations; raises BadTerm for what is no row of pairs of terms."""
    if not is_row(equations):
        raise BadTerm(None)
    rows = shelf.rows_if_terms([equations])
    if rows is None:
        raise BadTerm([is_pair(pair) for pair in equations].index(False))
    return rows[0]


def dict_if_terms(shelf, thing):
    """The dict of the nodes of a dict from names of unknowns to terms; None for what is none."""
    if not isinstance(thing, dict) or not all([is_unknown_name(name) for name in thing]):
        return None
    nodes = shelf.nodes_if_terms([thing[name] for name in thing], None)
    return None if nodes is None else {name: node for name, node in zip(list(thing), nodes)}


def led_by(steps, equations):
    """The list of the pairs of nodes that steps lead to from such; None if they aren't such steps."""
    if not isinstance(steps, tuple):
        return None
    pairs = []
    for step in steps:
        if not is_step_shape(step):
            return None
        pair = led_to(step, equations, pairs)
        if pair is None:
            return None
        pairs.append(pair)
    return pairs


def is_step_shape(step):
    """Whether a thing is a word and numbers in a tuple."""
    if not isinstance(step, tuple) or not 2 <= len(step) <= 3 or not isinstance(step[0], str):
        return False
    return all([is_integer(number) for number in step[1:]])


def led_to(step, equations, pairs):
    """The pair that a step leads to, behind earlier ones; None if it leads to none."""
    word = step[0]
    if word == "given" and len(step) == 2:
        return equations[step[1]] if is_number_below(step[1], len(equations)) else None
    if not is_number_below(step[1], len(pairs)):
        return None
    one, other = pairs[step[1]]
    if word == "turned" and len(step) == 2:
        return other, one
    if word == "part" and len(step) == 3:
        return led_inside(one, other, step[2])
    if word == "joined" and len(step) == 3 and is_number_below(step[2], len(pairs)):
        between, last = pairs[step[2]]
        return (one, last) if other == between else None
    return None


def led_inside(one, other, at):
    """The pair of the parts with a number of two compounds that are alike; None if there is none."""
    if not one.inner or not are_headed_alike(one, other):
        return None
    return (one.inner[at], other.inner[at]) if is_number_below(at, len(one.inner)) else None


def is_clash(pair):
    """Whether both sides are no unknowns, with unlike heads."""
    one, other = pair
    if one.inner is None or other.inner is None:
        return False
    return not are_headed_alike(one, other)


def is_ring(pairs):
    """Whether first sides are unknowns, each in the second side of the pair ahead, round."""
    for at, (one, _) in enumerate(pairs):
        if one.inner is not None or one not in unlike_nodes([pairs[at - 1][1]]):
            return False
    return any([other.inner for _, other in pairs])
