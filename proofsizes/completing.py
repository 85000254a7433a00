"""Lists of answers that are complete, and whether two lists have the same instances."""

from proofsizes.answers import is_row_of_answers
from proofsizes.covering import check_ways, ground_nodes, is_in_first_alone, meeting, row_outside
from proofsizes.errors import BadAnswer
from proofsizes.finding import OfLevels, found_proofs
from proofsizes.searching import Answered, Spent, judge_spent, told_newly
from proofsizes.sharing import FEW_STEPS, are_same_rows
from proofsizes.terms import as_tuple
from proofsizes.ways import Ways


class Complete:
    """The told list of all proofs of a question that is spent behind some levels."""

    def __init__(self, levels, answers):
        self.levels = levels
        self.answers = as_tuple(answers)

    def __bool__(self):
        return True

    def __eq__(self, other):
        return isinstance(other, Complete) and self.levels == other.levels and self.answers == other.answers

    def shows(self, program, question):
        """Whether the question is spent so, and has just these answers."""
        if not isinstance(self.answers, tuple) or not Spent(self.levels).shows(program, question):
            return False
        for one in self.answers:
            if not isinstance(one, Answered) or not one.shows(program, question):
                return False
        return self.answers == all_told(program, question, self.levels)


class SameInstances:
    """Two rows of answers have the same instances."""

    def __bool__(self):
        return True

    def __eq__(self, other):
        return isinstance(other, SameInstances)

    def shows(self, one, other):
        """Whether it is so."""
        return bool(judge_instances(one, other))


class OneSided:
    """An instance of the first answers alone, or of the others alone."""

    def __init__(self, row, is_first):
        self.row = as_tuple(row)
        self.is_first = is_first

    def __bool__(self):
        return False

    def __eq__(self, other):
        if not isinstance(other, OneSided) or self.is_first != other.is_first:
            return False
        return are_same_rows(self.row, other.row, FEW_STEPS)

    def shows(self, one, other):
        """Whether the row is such an instance."""
        check_sides(one, other)
        row = ground_nodes(self.row)
        if not isinstance(self.is_first, bool) or row is None:
            return False
        return is_in_first_alone(row, one, other) if self.is_first else is_in_first_alone(row, other, one)


def complete(program, question, most):
    """A Complete, if the question is spent behind most levels or less, or the StillOpen."""
    paper = judge_spent(program, question, most)
    if not paper:
        return paper
    return Complete(paper.levels, all_told(program, question, paper.levels))


def all_told(program, question, levels):
    """The tuple of the told list of all proofs with at most so many levels."""
    ways = Ways(program, question)
    by_size = {}
    for row in found_proofs(ways, OfLevels(ways, levels)):
        by_size.setdefault(row[0][0], []).append(row)
    told = []
    for size in by_size:
        told.extend(told_newly(by_size[size], told))
    return tuple(told)


def judge_instances(one, other):
    """A SameInstances, or a OneSided, of two rows of Answers to as many terms."""
    check_sides(one, other)
    sides = [(answer, meeting(answer, other), True) for answer in one]
    sides.extend([(answer, meeting(answer, one), False) for answer in other])
    for _, others, _ in sides:
        check_ways(others)
    for answer, others, is_first in sides:
        row = row_outside(answer, others)
        if row is not None:
            return OneSided(row, is_first)
    return SameInstances()


def check_sides(one, other):
    """Raises BadAnswer for what are no two rows of Answers to as many terms."""
    if not is_row_of_answers(one) or not is_row_of_answers(other):
        raise BadAnswer("answers")
    if not is_row_of_answers(list(one) + list(other)):
        raise BadAnswer("answers")
