"""Whether the instances of an answer are all among those of others."""

from proofsizes.answers import Answer, is_instance, is_row_of_answers
from proofsizes.bindings import Bindings, bound_by
from proofsizes.errors import BadAnswer, TooLarge
from proofsizes.terms import are_alike, as_tuple, is_ground_term, matched, names_in, put_in_pairs
from proofsizes.terms import put_in_row, sides_of, unlike_constants

MOST_WAYS = 4096


class Covered:
    """Each instance of an answer is one of some others."""

    def __bool__(self):
        return True

    def __eq__(self, other):
        return isinstance(other, Covered)

    def shows(self, answer, answers):
        """Whether it is so."""
        return bool(judge_covered(answer, answers))


class Outside:
    """An instance of an answer that is one of no other."""

    def __init__(self, row):
        self.row = as_tuple(row)

    def __bool__(self):
        return False

    def __eq__(self, other):
        return isinstance(other, Outside) and self.row == other.row

    def shows(self, answer, answers):
        """Whether the row is such an instance."""
        check_covering(answer, answers)
        return is_ground_row(self.row) and is_in_first_alone(self.row, [answer], answers)


def judge_covered(answer, answers):
    """A Covered, or an Outside, of an answer and a row of others to as many terms."""
    check_covering(answer, answers)
    others = meeting(answer, answers)
    check_ways(others)
    row = row_outside(answer, others)
    return Covered() if row is None else Outside(row)


def check_covering(answer, answers):
    """Raises BadAnswer for what is no answer, or no row of others to as many terms."""
    if not isinstance(answer, Answer):
        raise BadAnswer("answer")
    if not is_row_of_answers(answers) or any([len(other.terms) != len(answer.terms) for other in answers]):
        raise BadAnswer("answers")


def check_ways(others):
    """Raises TooLarge if there are too many ways in which others, that meet an answer, may fail."""
    ways = 1
    for other in others:
        ways *= len(other.inequations) + 1
    if ways > MOST_WAYS:
        raise TooLarge(ways)


def meeting(answer, answers):
    """Those others whose terms can be made the same as the answer's."""
    # Unknowns of answers are named by integers, so these names are none of the others'.
    worth = {name: ("?", str(name)) for name in names_in(answer.terms)}
    terms = put_in_row(answer.terms, worth)
    return [other for other in answers if can_be_same(terms, other.terms)]


def can_be_same(terms, others):
    """Whether two rows of terms, without common unknowns, can be made the same."""
    return Bindings().make_same(list(zip(terms, others)))


def row_outside(answer, others):
    """An instance of an answer that is one of none of those that meet it; None if there is none.

    Unlike new constants for unknowns are in another answer only if its terms have all
    those of this one as instances, and no inequation of it always fails: then one of
    them is to fail, which asks more equations of this answer's unknowns.
    """
    # Those with few inequations leave few ways to go on, so they are asked first.
    ascending = sorted(others, key=lambda other: len(other.inequations))
    waiting = [()]
    while waiting:
        equations = waiting.pop()
        bound = bound_by(equations)
        if bound is None or fails_always(answer.inequations, bound):
            continue
        failing = ways_to_fail(put_in_row(answer.terms, bound), ascending)
        if failing is None:
            return ground_row(answer, others, bound)
        waiting.extend([equations + pairs for pairs in failing])
    return None


def fails_always(inequations, worth):
    """Whether one of some inequations can't be met when terms are put in."""
    return any([are_alike(put_in_pairs(pairs, worth)) for pairs in inequations])


def ways_to_fail(terms, others):
    """For the first other that has all instances of terms, the pairs of its inequations; None without any."""
    for other in others:
        worth = matched(other.terms, terms, {})
        if worth is not None and not fails_always(other.inequations, worth):
            return [tuple(put_in_pairs(pairs, worth)) for pairs in other.inequations]
    return None


def is_inside(answer, other):
    """Whether all instances of an answer are another one's."""
    if matched(other.terms, answer.terms, {}) is None:
        return False
    return not other.inequations or row_outside(answer, [other]) is None


def ground_row(answer, others, bound):
    """The row of an answer's terms with unlike constants that stand nowhere for all that isn't bound."""
    terms = put_in_row(answer.terms, bound)
    standing = list(terms)
    for other in [answer] + others:
        standing.extend(other.terms)
        standing.extend([term for pairs in other.inequations for term in sides_of(pairs)])
    return tuple(put_in_row(terms, unlike_constants(names_in(terms), standing)))


def is_ground_row(thing):
    """Whether a thing is a tuple of ground terms."""
    return isinstance(thing, tuple) and all([is_ground_term(term) for term in thing])


def is_in_first_alone(row, answers, others):
    """Whether a row is an instance of one of some answers, and of none of others."""
    if any([is_instance(other, row) for other in others]):
        return False
    return any([is_instance(answer, row) for answer in answers])
