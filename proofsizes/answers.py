"""Answers: terms with inequations, in a form that is the same for the same instances."""

from proofsizes.bindings import bound_by
from proofsizes.errors import BadAnswer
from proofsizes.terms import are_alike, is_row, is_row_of_pairs, is_row_of_terms, matched, names_in
from proofsizes.terms import numbered, pairs_key, put_in_pairs, put_in_row, sides_of, terms_key


class Answer:
    """Terms and inequations in their normal form."""

    def __init__(self, terms, inequations):
        if not is_row_of_terms(terms):
            raise BadAnswer("terms")
        if not is_row(inequations) or not all([is_row_of_pairs(pairs) for pairs in inequations]):
            raise BadAnswer("inequations")
        normal = normal_form(terms, inequations)
        if normal is None:
            raise BadAnswer("empty")
        self.terms, self.inequations = normal

    def __eq__(self, other):
        return isinstance(other, Answer) and self.terms == other.terms and self.inequations == other.inequations


def answer_to(terms, inequations):
    """The Answer to what comes of the work, which may be deeper than what is handed in; None without instances."""
    normal = normal_form(terms, inequations)
    if normal is None:
        return None
    answer = Answer((), ())
    answer.terms, answer.inequations = normal
    return answer


def normal_form(terms, inequations):
    """The terms and the inequations of an Answer; None if it has no instances."""
    names = names_in(terms)
    all_names = names_in(list(terms) + [term for pairs in inequations for term in sides_of(pairs)])
    # The terms' unknowns come first, so that they have the numbers that the form asks.
    worth = numbered(all_names, 0)
    bounds = [bound_by(put_in_pairs(pairs, worth)) for pairs in inequations]
    if {} in bounds:
        return None
    rows = {}
    for bound in bounds:
        if bound is not None and not has_hidden(bound, len(names)):
            pairs = tuple([(("?", name), bound[name]) for name in bound])
            rows[pairs_key(pairs)] = pairs
    kept = [key for key in rows if not follows_from_another(rows, key)]
    return tuple(put_in_row(terms, worth)), tuple([rows[key] for key in sorted(kept)])


def has_hidden(bound, many):
    """Whether an unknown stands in a solved inequation that is none of the first so many."""
    standing = list(bound) + names_in([bound[name] for name in bound])
    return any([name >= many for name in standing])


def follows_from_another(rows, key):
    """Whether another of some solved inequations asks more than one of them."""
    bound = {one[1]: other for one, other in rows[key]}
    return any([other != key and are_alike(put_in_pairs(rows[other], bound)) for other in rows])


def is_instance(answer, row):
    """Whether a row of ground terms is an instance of an answer."""
    if len(row) != len(answer.terms):
        return False
    worth = matched(answer.terms, row, {})
    if worth is None:
        return False
    return not any([are_alike(put_in_pairs(pairs, worth)) for pairs in answer.inequations])


def is_row_of_answers(thing):
    """Whether a thing is a row of Answers to as many terms."""
    if not is_row(thing) or not all([isinstance(answer, Answer) for answer in thing]):
        return False
    return all([len(answer.terms) == len(thing[0].terms) for answer in thing])


def answer_key(answer):
    """By this the answers of one size ascend; it is the same for equal answers alone."""
    terms = terms_key(answer.terms)
    inequations = tuple([pairs_key(pairs) for pairs in answer.inequations])
    return (len(terms), terms, len(inequations), inequations)
