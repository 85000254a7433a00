"""Answers: terms with inequations, in a form that is the same for the same instances."""

from proofsizes.bindings import bound_by
from proofsizes.errors import BadAnswer
from proofsizes.nodes import are_alike, matched, names_in, put_in_pairs, terms_of
from proofsizes.ordering import ascending, ascending_by_signs
from proofsizes.shelves import Shelf, parted_pairs, sides_of_rows
from proofsizes.terms import MOST_WITHIN, is_row, sides_of


class Answer:
    """Terms and inequations in their normal form."""

    def __init__(self, terms, inequations):
        shelf = Shelf()
        nodes = shelf.nodes_if_terms(terms, MOST_WITHIN) if is_row(terms) else None
        if nodes is None:
            raise BadAnswer("terms")
        rows = shelf.rows_if_terms(inequations) if is_row(inequations) else None
        if rows is None:
            raise BadAnswer("inequations")
        form = form_of(nodes, rows)
        if form is None:
            raise BadAnswer("empty")
        self.form = form
        self.terms, self.inequations = form.as_tuples()

    def __eq__(self, other):
        return isinstance(other, Answer) and are_same_forms(self.form, other.form)


class Form:
    """A normal form: terms, and rows of pairs with an unknown first; each term in it is one node."""

    def __init__(self, terms, rows):
        self.terms = terms
        self.rows = rows

    def all_nodes(self):
        """The list of all terms and of all sides of pairs, in order."""
        return list(self.terms) + sides_of_rows(self.rows)

    def as_tuples(self):
        """The tuples of the terms and of the inequations."""
        found = terms_of(self.all_nodes())
        many = len(self.terms)
        return tuple(found[:many]), tuple([tuple(row) for row in parted_pairs(found[many:], self.rows)])


def are_same_forms(one, other):
    """Whether two normal forms are the same."""
    if len(one.terms) != len(other.terms) or [len(row) for row in one.rows] != [len(row) for row in other.rows]:
        return False
    return are_alike(list(zip(one.all_nodes(), other.all_nodes())))


def answer_to(terms, inequations):
    """The Answer to what comes of the work, which may be deeper than what is handed in; None without instances."""
    form = form_of(terms, inequations)
    if form is None:
        return None
    answer = Answer((), ())
    answer.form = form
    answer.terms, answer.inequations = form.as_tuples()
    return answer


def form_of(terms, inequations):
    """The normal form of an answer; None if it has no instances."""
    many = len(names_in(terms))
    sides = sides_of_rows(inequations)
    shelf = Shelf()
    # The terms' unknowns come first, so that they have the numbers that the form asks.
    worth = {name: shelf.unknown(at) for at, name in enumerate(names_in(list(terms) + sides))}
    rows = {}
    for pairs in inequations:
        bound = bound_by(put_in_pairs(pairs, worth))
        if bound is not None and not bound:
            return None
        if bound is not None and not has_hidden(bound, many):
            unknowns = [shelf.unknown(name) for name in bound]
            rows[tuple(zip(unknowns, shelf.copies_of([bound[name] for name in bound])))] = True
    left = [row for row in rows if not follows_from_another(rows, row)]
    return Form(shelf.put_in(terms, worth), ascending(left, [sides_of(row) for row in left]))


def has_hidden(bound, many):
    """Whether an unknown stands in a solved inequation that is none of the first so many."""
    standing = list(bound) + names_in([bound[name] for name in bound])
    return any([name >= many for name in standing])


def follows_from_another(rows, row):
    """Whether another of some solved inequations asks more than one of them."""
    bound = {one.name: other for one, other in row}
    return any([other != row and are_alike(put_in_pairs(other, bound)) for other in rows])


def is_instance(answer, row):
    """Whether a row of ground terms is an instance of an answer."""
    return is_instance_of_form(answer.form, Shelf().nodes_of(row))


def is_instance_of_form(form, row):
    """Whether a row of nodes of ground terms is an instance of an answer with a normal form."""
    if len(row) != len(form.terms):
        return False
    worth = matched(form.terms, row, {})
    if worth is None:
        return False
    return not any([are_alike(put_in_pairs(pairs, worth)) for pairs in form.rows])


def is_row_of_answers(thing):
    """Whether a thing is a row of Answers to as many terms."""
    if not is_row(thing) or not all([isinstance(answer, Answer) for answer in thing]):
        return False
    return all([len(answer.terms) == len(thing[0].terms) for answer in thing])


def unlike_answers(answers):
    """The list of the unlike ones of some answers, each where it comes first."""
    shelf = Shelf()
    found = {}
    for answer in answers:
        found.setdefault(shelf.key_of(answer.form), answer)
    return list(found.values())


def ascending_answers(answers):
    """The list of answers in their order: by how many signs their terms have, the terms, inequations."""
    found = list(answers)
    # What tells most is asked last: those that are the same by it stay as they stand.
    for at in reversed(range(max([0] + [len(answer.form.rows) for answer in found]))):
        found = ascending(found, [sides_at(answer.form.rows, at) for answer in found])
    found = sorted(found, key=lambda answer: len(answer.form.rows))
    return ascending_by_signs(found, [answer.form.terms for answer in found])


def sides_at(rows, at):
    """The sides of the pairs of a row with a number; none if there is no such row."""
    return sides_of(rows[at]) if at < len(rows) else []
