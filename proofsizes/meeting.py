"""Answers together: what two have in common, some places of one, the least pattern of two."""

from proofsizes.answers import Answer, answer_to, is_row_of_answers
from proofsizes.bindings import Bindings
from proofsizes.errors import BadAnswer
from proofsizes.nodes import are_headed_alike, made_node, matched, names_in, numbered, put_in, put_in_pairs
from proofsizes.nodes import unknown_node
from proofsizes.shelves import Shelf, parted_pairs, sides_of_rows
from proofsizes.terms import is_number_below, is_row


def meet(one, other):
    """The Answer with the instances of both; None if there are none."""
    check_both(one, other)
    first, second = one.form, other.form
    worth = numbered(names_in(second.terms), len(names_in(first.terms)))
    bindings = Bindings()
    if not bindings.make_same(list(zip(first.terms, put_in(second.terms, worth)))):
        return None
    inequations = list(first.rows) + [put_in_pairs(pairs, worth) for pairs in second.rows]
    return resolved_answer(bindings, first.terms, inequations)


def check_both(one, other):
    """Raises BadAnswer for what aren't two Answers to as many terms."""
    if not is_row_of_answers([one, other]):
        raise BadAnswer("answers")


def resolved_answer(bindings, nodes, inequations):
    """The Answer to terms and inequations with all that is bound put in; None without instances."""
    terms, rows = resolved_rows(bindings, nodes, inequations)
    return answer_to(terms, rows)


def resolved_rows(bindings, nodes, inequations):
    """The terms and the inequations with all that is bound put in."""
    found = bindings.resolved(list(nodes) + sides_of_rows(inequations), {})
    return found[:len(nodes)], parted_pairs(found[len(nodes):], inequations)


def kept(answer, places):
    """The Answer to the terms with some places, in their order."""
    if not isinstance(answer, Answer):
        raise BadAnswer("answer")
    many = len(answer.form.terms)
    if not is_row(places) or not all([is_number_below(place, many) for place in places]):
        raise BadAnswer("places")
    return answer_to([answer.form.terms[place] for place in places], answer.form.rows)


def least_pattern(one, other):
    """The Answer without inequations that has the instances of both, and no more than it must."""
    check_both(one, other)
    # On one shelf the same two parts are the same pair, wherever they stand.
    shelf = Shelf()
    pairs = list(zip(shelf.copies_of(one.form.terms), shelf.copies_of(other.form.terms)))
    built = {}
    waiting = list(pairs)
    while waiting:
        first, second = waiting[-1]
        inner = []
        if (first, second) not in built and are_headed_alike(first, second):
            inner = list(zip(first.inner, second.inner))
        left = [pair for pair in inner if pair not in built]
        if left:
            waiting.extend(left)
            continue
        waiting.pop()
        if inner:
            built[first, second] = made_node(first.name, tuple([built[pair] for pair in inner]))
        elif (first, second) not in built:
            is_same = are_headed_alike(first, second)
            built[first, second] = first if is_same else unknown_node(len(built))
    return answer_to([built[pair] for pair in pairs], ())


def is_pattern_of(pattern, answer):
    """Whether an answer's terms come of a pattern's by putting in terms for unknowns."""
    check_both(pattern, answer)
    return matched(pattern.form.terms, answer.form.terms, {}) is not None
