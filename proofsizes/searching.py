"""Answers by the sizes of their proofs, and whether a question is spent."""

from proofsizes.answers import Answer, ascending_answers
from proofsizes.covering import judge_covered
from proofsizes.finding import MOST_IN_TURN, OfLevels, OfSize, Sizes, found_proofs, spent_behind
from proofsizes.growing import told_by_sizes
from proofsizes.opening import is_open_behind
from proofsizes.programs import check_count, is_count
from proofsizes.proofs import answer_with_size, are_proofs, proofs_size
from proofsizes.sharing import MOST_STEPS, are_same_rows
from proofsizes.shelves import Shelf
from proofsizes.terms import as_tuple, is_integer
from proofsizes.ways import Ways


class Answered:
    """An answer, with the least size of proofs that have it, and the first such proofs."""

    def __init__(self, answer, size, proofs):
        self.answer = answer
        self.size = size
        self.proofs = as_tuple(proofs)

    def __eq__(self, other):
        if not isinstance(other, Answered):
            return False
        if self.answer != other.answer or self.size != other.size:
            return False
        return are_same_rows(self.proofs, other.proofs, MOST_STEPS)

    def shows(self, program, question):
        """Whether the proofs are of the size and have the answer."""
        if not isinstance(self.answer, Answer) or not is_integer(self.size):
            return False
        if not are_proofs(program, question, self.proofs) or proofs_size(self.proofs) != self.size:
            return False
        return answer_with_size(program, question, self.proofs, self.size) == self.answer


class Spent:
    """The least number of levels behind which no goals are open."""

    def __init__(self, levels):
        self.levels = levels

    def __bool__(self):
        return True

    def __eq__(self, other):
        return isinstance(other, Spent) and self.levels == other.levels

    def shows(self, program, question):
        """Whether it is the least such number."""
        if not is_count(self.levels) or is_open_behind(program, question, self.levels):
            return False
        return self.levels == 0 or is_open_behind(program, question, self.levels - 1)


class StillOpen:
    """A number of levels behind which goals are open in some way."""

    def __init__(self, levels):
        self.levels = levels

    def __bool__(self):
        return False

    def __eq__(self, other):
        return isinstance(other, StillOpen) and self.levels == other.levels

    def shows(self, program, question):
        """Whether it is such a number."""
        return is_count(self.levels) and is_open_behind(program, question, self.levels)


def proofs_of_size(program, question, size):
    """The list of all proofs of a size that have an answer, ascending by their rules' numbers."""
    check_count(size, "size")
    ways = Ways(program, question)
    sizes = Sizes(ways, size)
    levels = None
    if size > MOST_IN_TURN and sizes.can_be([relation for relation, _ in ways.question.asked], size):
        levels = spent_behind(program, question)
    rows = found_proofs(ways, OfSize(sizes, size) if levels is None else OfLevels(ways, levels))
    return [proofs for (many, _), proofs, _ in rows if many == size]


def proofs_of_levels(program, question, levels):
    """The list of all proofs of at most so many levels that have an answer, by sizes, then as of one size."""
    check_count(levels, "levels")
    ways = Ways(program, question)
    return [proofs for _, proofs, _ in found_proofs(ways, OfLevels(ways, levels))]


def answered(program, question, most):
    """The told list: the answers by the sizes, up to most, of their proofs, without what those ahead cover."""
    check_count(most, "size")
    ways = Ways(program, question)
    sizes = Sizes(ways, most)
    told = []
    for size in sizes_in_turn(program, question, most):
        told.extend(told_newly(found_proofs(ways, OfSize(sizes, size)), told))
    return told


def sizes_in_turn(program, question, most):
    """The list of the sizes up to most, if these are few; otherwise of those alone of which something is told."""
    if most <= MOST_IN_TURN:
        return list(range(most + 1))
    return sorted(set([size for size, _ in told_by_sizes(program, question, most)]))


def told_at(program, question, size, told):
    """The list of what is told of one size behind what is told of all smaller ones."""
    ways = Ways(program, question)
    return told_newly(found_proofs(ways, OfSize(Sizes(ways, size), size)), told)


def told_newly(rows, told):
    """The list of what is told of proofs of one size behind what is told ahead."""
    shelf = Shelf()
    first = {}
    for (size, _), proofs, answer in rows:
        first.setdefault(shelf.key_of(answer.form), Answered(answer, size, proofs))
    new = []
    answers = [one.answer for one in told]
    for answer in ascending_answers([one.answer for one in list(first.values())]):
        if not judge_covered(answer, answers):
            new.append(first[shelf.key_of(answer.form)])
            answers.append(answer)
    return new


def opened(program, question, levels):
    """Whether goals are open behind so many levels in some way."""
    check_count(levels, "levels")
    return is_open_behind(program, question, levels)


def judge_spent(program, question, most):
    """A Spent with the least number of levels, at most most, behind which nothing is open, or a StillOpen."""
    check_count(most, "levels")
    for levels in range(most + 1):
        if not is_open_behind(program, question, levels):
            return Spent(levels)
    return StillOpen(most)
