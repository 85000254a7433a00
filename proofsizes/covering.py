"""Whether the instances of an answer are all among those of others."""

from proofsizes.answers import Answer, is_instance_of_form, is_row_of_answers
from proofsizes.bindings import Bindings, bound_by
from proofsizes.errors import BadAnswer, TooLarge
from proofsizes.nodes import are_alike, matched, names_in, put_in, put_in_pairs, terms_of, unknown_node
from proofsizes.nodes import unlike_constants
from proofsizes.sharing import FEW_STEPS, are_same_rows
from proofsizes.shelves import Shelf
from proofsizes.terms import are_terms, as_tuple

MOST_WAYS = 4096


class Covered:
    """Each instance of an answer is one of some others."""

    def __bool__(self):
        return True

    def __eq__(self, other):
        return isinstance(other, Covered)

    def shows(self, answer, answers):
        """Whether it is so."""
        return bool(judge_covered(answer, answers))


class Outside:
    """An instance of an answer that is one of no other."""

    def __init__(self, row):
        self.row = as_tuple(row)

    def __bool__(self):
        return False

    def __eq__(self, other):
        return isinstance(other, Outside) and are_same_rows(self.row, other.row, FEW_STEPS)

    def shows(self, answer, answers):
        """Whether the row is such an instance."""
        check_covering(answer, answers)
        row = ground_nodes(self.row)
        return row is not None and is_in_first_alone(row, [answer], answers)


def judge_covered(answer, answers):
    """A Covered, or an Outside, of an answer and a row of others to as many terms."""
    check_covering(answer, answers)
    others = meeting(answer, answers)
    check_ways(others)
    row = row_outside(answer, others)
    return Covered() if row is None else Outside(row)


def check_covering(answer, answers):
    """Raises BadAnswer for what is no answer, or no row of others to as many terms."""
    if not isinstance(answer, Answer):
        raise BadAnswer("answer")
    if not is_row_of_answers(answers) or any([len(other.terms) != len(answer.terms) for other in answers]):
        raise BadAnswer("answers")


def check_ways(others):
    """Raises TooLarge if there are too many ways in which others, that meet an answer, may fail."""
    ways = 1
    for other in others:
        ways *= len(other.inequations) + 1
    if ways > MOST_WAYS:
        raise TooLarge(ways)


def meeting(answer, answers):
    """Those others whose terms can be made the same as the answer's."""
    # Unknowns of answers are named by integers, so these names are none of the others'.
    terms = answer.form.terms
    terms = put_in(terms, {name: unknown_node(str(name)) for name in names_in(terms)})
    return [other for other in answers if can_be_same(terms, other.form.terms)]


def can_be_same(nodes, others):
    """Whether two rows of terms, without common unknowns, can be made the same."""
    return Bindings().make_same(list(zip(nodes, others)))


def row_outside(answer, others):
    """An instance of an answer that is one of none of those that meet it; None if there is none.

    Unlike new constants for unknowns are in another answer only if its terms have all
    those of this one as instances, and no inequation of it always fails: then one of
    them is to fail, which asks more equations of this answer's unknowns.
    """
    form = answer.form
    forms = [other.form for other in others]
    # Those with few inequations leave few ways to go on, so they are asked first.
    ahead = sorted(forms, key=lambda other: len(other.rows))
    waiting = [()]
    while waiting:
        equations = waiting.pop()
        bound = bound_by(equations)
        if bound is None or fails_always(form.rows, bound):
            continue
        failing = ways_to_fail(put_in(form.terms, bound), ahead)
        if failing is None:
            return ground_row(form, forms, bound)
        waiting.extend([equations + pairs for pairs in failing])
    return None


def fails_always(inequations, worth):
    """Whether one of some inequations can't be met when terms are put in."""
    return any([are_alike(put_in_pairs(pairs, worth)) for pairs in inequations])


def ways_to_fail(nodes, forms):
    """For the first normal form that has all instances of terms, the pairs of its inequations; None without any."""
    for form in forms:
        worth = matched(form.terms, nodes, {})
        if worth is not None and not fails_always(form.rows, worth):
            return [tuple(put_in_pairs(pairs, worth)) for pairs in form.rows]
    return None


def is_inside(answer, other):
    """Whether all instances of an answer are another one's."""
    if matched(other.form.terms, answer.form.terms, {}) is None:
        return False
    return not other.form.rows or row_outside(answer, [other]) is None


def ground_row(form, forms, bound):
    """The row of an answer's terms with unlike constants that stand nowhere for all that isn't bound."""
    nodes = put_in(form.terms, bound)
    standing = list(nodes)
    for other in [form] + forms:
        standing.extend(other.all_nodes())
    return tuple(terms_of(put_in(nodes, unlike_constants(names_in(nodes), standing))))


def ground_nodes(thing):
    """The list of the nodes of a tuple of ground terms; None for what is none."""
    if not isinstance(thing, tuple) or not are_terms(thing, None):
        return None
    nodes = Shelf().nodes_of(thing)
    return nodes if all([node.is_ground for node in nodes]) else None


def is_in_first_alone(row, answers, others):
    """Whether a row of nodes is an instance of one of some answers, and of none of others."""
    if any([is_instance_of_form(other.form, row) for other in others]):
        return False
    return any([is_instance_of_form(answer.form, row) for answer in answers])
