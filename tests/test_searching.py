"""[10] and [11]: answers by size, and spent questions."""

import random
import unittest

from proofsizes.answers import Answer
from proofsizes.covering import judge_covered
from proofsizes.errors import BadQuestion, TooLarge
from proofsizes.programs import Program, Question, Rule
from proofsizes.proofs import answer_of, proofs_levels, proofs_size
from proofsizes.searching import Answered, Spent, StillOpen, answered, judge_spent, opened, proofs_of_levels
from proofsizes.searching import proofs_of_size
from tests.plain import answer_key
from tests.samples import ALL_COUNTS, COUNTS, JOINED, SPLIT, X, Y, Z, numbers_of, parted, random_program
from tests.samples import random_question, relation, row_of, slow_answer, slow_forests, slow_levels, wrapped
from tests.spoiling import check_spoilt

WALKS = Program(
    [Rule(("walk", (X, Y)), [("step", (X, Y))]), Rule(("walk", (X, Y)), [("step", (X, Z)), ("walk", (Z, Y))])]
    + [Rule(("step", pair), []) for pair in [(0, 1), (1, 2), (0, 2), (2, 3), (3, 0)]]
)
FOUND = Program([Rule(("in", (X, ("row", (X, Y)))), []), Rule(("in", (X, ("row", (Z, Y)))), [("in", (X, Y))])])
TREES = Program([Rule(("tree", ("leaf",)), []), Rule(("tree", (("fork", (X, Y)),)), [("tree", (X,)), ("tree", (Y,))])])
SUMS = Program(
    [
        Rule(("sum", (0, Y, Y)), []),
        Rule(("sum", (wrapped(1, X), Y, wrapped(1, Z))), [("sum", (X, Y, Z))]),
    ]
    + list(COUNTS.rules)
)


class SizesTest(unittest.TestCase):
    def test_the_example(self):
        whole = ("row", ("a", ("row", ("a", "none"))))
        told = answered(JOINED, Question([X, Y], [("joined", (X, Y, whole))]), 3)
        self.assertEqual(
            [(one.size, one.answer.terms) for one in told],
            [
                (1, ("none", ("row", ("a", ("row", ("a", "none")))))),
                (2, (("row", ("a", "none")), ("row", ("a", "none")))),
                (3, (("row", ("a", ("row", ("a", "none")))), "none")),
            ],
        )

    def test_size_zero(self):
        self.assertEqual(proofs_of_size(COUNTS, Question([X], []), 0), [()])
        self.assertEqual(proofs_of_size(COUNTS, Question([], [("equal", (X, 1)), ("unlike", (X, 2))]), 0), [()])
        self.assertEqual(proofs_of_size(COUNTS, Question([], [("equal", (1, 2))]), 0), [])
        self.assertEqual(proofs_of_size(COUNTS, Question([], [("unlike", (X, X))]), 0), [])
        self.assertEqual(proofs_of_size(COUNTS, ALL_COUNTS, 0), [])
        told = answered(COUNTS, Question([X, Y], [("unlike", (X, Y))]), 2)
        self.assertEqual(told, [Answered(Answer([X, Y], [[(X, Y)]]), 0, ())])
        self.assertEqual(answered(COUNTS, Question([X], [("equal", (X, ("f", (X,))))]), 2), [])

    def test_relations_without_rules(self):
        self.assertEqual(proofs_of_size(COUNTS, Question([], [("nothing", ())]), 1), [])
        self.assertEqual(proofs_of_size(COUNTS, Question([], [("count", (X, X))]), 1), [])
        self.assertEqual(proofs_of_size(Program([]), Question([], []), 0), [()])
        self.assertEqual(proofs_of_size(Program([]), Question([], [("p", ())]), 3), [])

    def test_relations_of_no_term(self):
        program = Program([Rule(("p", ()), [("q", ())]), Rule(("q", ()), []), Rule(("q", ()), [("p", ())])])
        question = Question(["a"], [("p", ())])
        self.assertEqual(proofs_of_size(program, question, 2), [((0, ((1, ()),)),)])
        self.assertEqual(proofs_of_size(program, question, 3), [])
        self.assertEqual(proofs_of_size(program, question, 4), [((0, ((2, ((0, ((1, ()),)),)),)),)])
        self.assertEqual(len(answered(program, question, 8)), 1)

    def test_order_of_proofs(self):
        proofs = proofs_of_size(WALKS, Question([], [("walk", (0, X)), ("walk", (Y, 3))]), 6)
        self.assertEqual([proofs_size(one) for one in proofs], [6] * len(proofs))
        self.assertEqual([numbers_of(one) for one in proofs], sorted(numbers_of(one) for one in proofs))
        self.assertEqual(len({str(one) for one in proofs}), len(proofs))
        self.assertGreater(len(proofs), 5)

    def test_goals_share_names_of_unknowns_with_rules(self):
        question = Question([Z], [("sum", (Z, Y, X)), ("equal", (X, wrapped(2, 0))), ("equal", (Y, wrapped(1, 0)))])
        told = answered(SUMS, question, 5)
        self.assertEqual([(one.answer, one.size) for one in told], [(Answer([wrapped(1, 0)], []), 2)])

    def test_answers_of_one_size_ascend(self):
        heads = [("f", (Y, Y)), wrapped(1, 3, "g"), "b", 2, -2, ("f", (X, Y)), ("e", (X, 1)), wrapped(1, "a", "g"), "a"]
        program = Program([Rule(("p", (head,)), []) for head in heads])
        told = answered(program, Question([X], [("p", (X,))]), 1)
        ascending = [-2, 2, "a", "b", wrapped(1, 3, "g"), wrapped(1, "a", "g"), ("e", (("?", 0), 1))]
        self.assertEqual([one.answer.terms[0] for one in told][:7], ascending)
        # The compound with two of one unknown comes ahead of that with unlike ones, so it is told, too.
        self.assertEqual([one.answer.terms[0][1] for one in told[7:]], [(("?", 0), ("?", 0)), (("?", 0), ("?", 1))])

    def test_inequations_count_last(self):
        program = Program(
            [
                Rule(("p", (X, "a")), [("unlike", (X, "b")), ("unlike", (X, "c"))]),
                Rule(("p", (X, "a")), [("unlike", (X, "e"))]),
                Rule(("p", (X, "a")), [("unlike", (X, "d"))]),
            ]
        )
        told = answered(program, Question([X, Y], [("p", (X, Y))]), 1)
        # The first two together leave nothing for the third one.
        self.assertEqual([one.answer.inequations for one in told], [(((("?", 0), "d"),),), (((("?", 0), "e"),),)])
        self.assertEqual([one.proofs for one in told], [((2, ()),), ((1, ()),)])

    def test_what_those_ahead_cover_together_is_not_told(self):
        program = Program(
            [
                Rule(("p", (X,)), [("unlike", (X, "a"))]),
                Rule(("p", ("a",)), []),
                Rule(("p", (X,)), [("p", (Y,))]),
                Rule(("p", (("f", (X,)),)), [("p", (X,))]),
            ]
        )
        told = answered(program, Question([X], [("p", (X,))]), 4)
        self.assertEqual([(one.answer.terms[0], one.size) for one in told], [("a", 1), (("?", 0), 1)])

    def test_the_first_proofs_of_the_size_are_told(self):
        program = Program([Rule(("p", (X,)), [("q", (X,))])] + [Rule(("q", (n % 2,)), []) for n in range(4)])
        told = answered(program, Question([X], [("p", (X,))]), 3)
        self.assertEqual([one.proofs for one in told], [((0, ((1, ()),)),), ((0, ((2, ()),)),)])

    def test_a_few_hundred_proofs_of_one_size(self):
        proofs = proofs_of_size(TREES, Question([X], [("tree", (X,))]), 15)
        self.assertEqual(len(proofs), 429)
        digits = Program([Rule(("digit", (n,)), []) for n in range(8)])
        question = Question([X, Y, Z], [("digit", (X,)), ("digit", (Y,)), ("unlike", (X, Y)), ("digit", (Z,))])
        told = answered(digits, question, 3)
        self.assertEqual(len(told), 448)
        self.assertEqual(told[0].answer.terms, (0, 1, 0))

    def test_long_proofs_and_deep_answers(self):
        (proofs,) = proofs_of_size(COUNTS, ALL_COUNTS, 150)
        self.assertEqual(answer_of(COUNTS, ALL_COUNTS, proofs).terms, (wrapped(149, 0),))
        big = Program([Rule(("big", (0,)), []), Rule(("big", (wrapped(19, X),)), [("big", (X,))])])
        question = Question([X], [("big", (X,))])
        told = answered(big, question, 11)
        self.assertEqual([one.answer.terms[0] for one in told], [wrapped(19 * n, 0) for n in range(11)])
        self.assertTrue(all(one.shows(big, question) for one in told))

    def test_told_lists_hang_on_no_order(self):
        source = random.Random(19)
        for _ in range(60):
            program, question = random_program(source), random_question(source)
            told = [(one.answer, one.size) for one in answered(program, question, 4)]
            rules = [Rule(rule.head, rule.goals[::-1]) for rule in program.rules]
            source.shuffle(rules)
            turned = Question(question.terms, question.goals[::-1])
            self.assertEqual([(one.answer, one.size) for one in answered(Program(rules), turned, 4)], told)

    def test_the_same_as_by_trying_all_trees(self):
        source = random.Random(23)
        proofs_many = told_many = 0
        for _ in range(120):
            program, question = random_program(source), random_question(source)
            wanted = [relation(goal) for goal in parted(question.goals)[0]]
            told = []
            for size in range(5):
                every = sorted(slow_forests(program, wanted, size, {}), key=numbers_of)
                if len(every) > 500:
                    break
                answers = [(slow_answer(program, question, proofs), proofs) for proofs in every]
                answers = [(answer, proofs) for answer, proofs in answers if answer is not None]
                self.assertEqual(proofs_of_size(program, question, size), [proofs for _, proofs in answers])
                proofs_many += len(answers)
                new = []
                for answer, proofs in answers:
                    if answer not in [one.answer for one in new]:
                        new.append(Answered(answer, size, proofs))
                for one in sorted(new, key=lambda one: answer_key(one.answer)):
                    if not judge_covered(one.answer, [ahead.answer for ahead in told]):
                        told.append(one)
                self.assertEqual(answered(program, question, size), told)
            told_many += len(told)
        self.assertGreater(proofs_many, 100)
        self.assertGreater(told_many, 60)

    def test_too_large(self):
        heads = [("p", (X,)) for _ in range(7)]
        goals = [[("unlike", (X, 10 * n + m)) for m in range(6)] for n in range(7)]
        program = Program([Rule(head, more) for head, more in zip(heads, goals)])
        question = Question([X], [("p", (X,))])
        pair = Question([X, Y], [("p", (X,)), ("p", (Y,))])
        self.assertEqual(len(answered(program, question, 1)), 2)
        with self.assertRaises(TooLarge) as caught:
            answered(program, Question([X, Y, Z], [("p", (X,)), ("p", (Y,)), ("p", (Z,))]), 3)
        self.assertGreater(caught.exception.number, 4096)
        self.assertEqual(len(proofs_of_size(program, pair, 2)), 49)

    def test_what_shows_takes(self):
        first = answered(JOINED, SPLIT, 3)[1]
        self.assertTrue(first.shows(JOINED, SPLIT))
        answer, proofs = first.answer, first.proofs
        other = answered(JOINED, SPLIT, 3)[0]
        self.assertFalse(Answered(answer, 1, proofs).shows(JOINED, SPLIT))
        self.assertFalse(Answered(answer, 2, other.proofs).shows(JOINED, SPLIT))
        self.assertFalse(Answered(other.answer, 2, proofs).shows(JOINED, SPLIT))
        self.assertFalse(Answered(answer, 4, ((1, ((1, ((1, ((0, ()),)),)),)),)).shows(JOINED, SPLIT))
        self.assertEqual(first, Answered(answer, 2, proofs))
        self.assertNotEqual(first, Answered(answer, 3, proofs))
        self.assertNotEqual(first, Answered(other.answer, 2, proofs))
        self.assertNotEqual(first, Answered(answer, 2, ()))
        self.assertNotEqual(first, answer)

    def test_bad_sizes(self):
        for size in (None, -1, True, "1", 1.0, (), Spent(0)):
            for call in (proofs_of_size, answered):
                with self.assertRaises(BadQuestion) as caught:
                    call(COUNTS, ALL_COUNTS, size)
                self.assertEqual(caught.exception.part, "size")

    def test_lists_are_new_and_arguments_unchanged(self):
        first, second = answered(COUNTS, ALL_COUNTS, 2), answered(COUNTS, ALL_COUNTS, 2)
        self.assertEqual(first, second)
        self.assertIsNot(first, second)
        self.assertIsNot(proofs_of_size(COUNTS, ALL_COUNTS, 2), proofs_of_size(COUNTS, ALL_COUNTS, 2))
        step = Rule(("count", (wrapped(1, X),)), [("count", (X,))])
        self.assertEqual(COUNTS, Program([Rule(("count", (0,)), []), step]))

    def test_spoilt(self):
        question = Question([X, Y], [("in", (X, row_of(["a", Y]))), ("unlike", (X, Y))])
        one = answered(FOUND, question, 2)[0]
        self.assertGreater(check_spoilt(self, one, [FOUND, question]), 100)
        self.assertFalse(Answered(one.answer, True, ((False, ()),)).shows(FOUND, question))


class SpentTest(unittest.TestCase):
    def check(self, program, question, most, paper):
        told = judge_spent(program, question, most)
        self.assertEqual(told, paper)
        self.assertIs(bool(told), isinstance(paper, Spent))
        self.assertTrue(told.shows(program, question))
        for levels in range(most + 1):
            self.assertIs(opened(program, question, levels), not paper or levels < paper.levels)
            self.assertIs(Spent(levels).shows(program, question), bool(paper) and levels == paper.levels)
            self.assertIs(StillOpen(levels).shows(program, question), not paper or levels < paper.levels)

    def test_spent_and_open(self):
        self.check(JOINED, SPLIT, 6, Spent(3))
        self.check(JOINED, SPLIT, 3, Spent(3))
        self.check(JOINED, SPLIT, 2, StillOpen(2))
        self.check(COUNTS, ALL_COUNTS, 30, StillOpen(30))
        self.check(COUNTS, Question([], [("count", (wrapped(5, 0),))]), 8, Spent(6))
        self.check(COUNTS, Question([], [("count", (wrapped(5, 1),))]), 8, Spent(6))

    def test_levels_zero(self):
        self.check(COUNTS, ALL_COUNTS, 0, StillOpen(0))
        self.check(COUNTS, Question([X], []), 3, Spent(0))
        self.check(COUNTS, Question([X], [("equal", (X, "a")), ("unlike", (X, "b"))]), 3, Spent(0))
        for goal in (("equal", ("a", "b")), ("unlike", ("a", "a")), ("equal", (X, ("f", (X,))))):
            self.check(COUNTS, Question([X], [("count", (X,)), goal]), 3, Spent(0))

    def test_one_goal_without_rules_ends_all(self):
        self.check(COUNTS, Question([], [("count", (X,)), ("nothing", ())]), 4, Spent(1))
        program = Program(list(COUNTS.rules) + [Rule(("p", ()), [("count", (X,)), ("nothing", (X,))])])
        self.check(program, Question([], [("p", ())]), 4, Spent(2))

    def test_goals_bound_each_other(self):
        question = Question([X, Y], [("count", (X,)), ("count", (Y,)), ("sum", (X, Y, wrapped(4, 0)))])
        self.check(SUMS, question, 8, Spent(5))
        question = Question([X, Y], [("count", (X,)), ("unlike", (Y, 0)), ("sum", (X, Y, wrapped(2, 0)))])
        self.check(SUMS, question, 8, Spent(3))
        question = Question([X], [("count", (X,)), ("count", (Y,)), ("sum", (X, wrapped(4, 0), Y))])
        self.check(SUMS, question, 12, StillOpen(12))

    def test_what_is_unlike_may_end_a_way(self):
        program = Program([Rule(("p", (X,)), [("unlike", (X, 0)), ("q", (X,))]), Rule(("q", (0,)), [("p", (1,))])])
        self.check(program, Question([], [("p", (X,))]), 5, Spent(2))
        self.check(program, Question([], [("p", (0,))]), 5, Spent(1))

    def test_goals_that_go_on_for_ever(self):
        loop = Program([Rule(("p", ()), [("p", ()), ("p", ())])])
        self.check(loop, Question([], [("p", ())]), 25, StillOpen(25))
        walks = Program([Rule(("walk", (X, Y)), [("walk", (X, Z)), ("walk", (Z, Y))]), Rule(("walk", (0, 1)), [])])
        self.check(walks, Question([X], [("walk", (0, X))]), 12, StillOpen(12))
        self.check(TREES, Question([X], [("tree", (X,))]), 20, StillOpen(20))
        self.check(TREES, Question([X], [("tree", (("fork", ("leaf", ("fork", ("leaf", "leaf")))),))]), 9, Spent(3))

    def test_more_levels_than_can_be_counted_up_to(self):
        self.assertEqual(judge_spent(JOINED, SPLIT, 10 ** 9), Spent(3))
        self.assertFalse(opened(JOINED, SPLIT, 10 ** 9))
        self.assertFalse(Spent(10 ** 9).shows(JOINED, SPLIT))
        self.assertFalse(StillOpen(10 ** 9).shows(JOINED, SPLIT))

    def test_the_same_as_level_by_level(self):
        source = random.Random(29)
        kinds = {}
        for _ in range(250):
            program, question = random_program(source), random_question(source)
            found = slow_levels(program, question, 3)
            if found is not None:
                self.assertEqual([opened(program, question, levels) for levels in range(4)], found)
                paper = judge_spent(program, question, 3)
                self.assertEqual(paper, Spent(found.index(False)) if False in found else StillOpen(3))
                self.assertTrue(paper.shows(program, question))
                kinds[bool(paper), paper.levels] = True
        self.assertEqual(len(kinds), 5)

    def test_equal_to_the_like_alone(self):
        self.assertEqual(Spent(2), Spent(2))
        self.assertNotEqual(Spent(2), Spent(3))
        self.assertNotEqual(Spent(2), StillOpen(2))
        self.assertEqual(StillOpen(2), StillOpen(2))
        self.assertNotEqual(StillOpen(2), StillOpen(1))
        self.assertNotEqual(StillOpen(2), 2)

    def test_bad_levels(self):
        for levels in (None, -1, True, False, "1", (), Spent(0)):
            for call in (judge_spent, opened, proofs_of_levels):
                with self.assertRaises(BadQuestion) as caught:
                    call(COUNTS, ALL_COUNTS, levels)
                self.assertEqual(caught.exception.part, "levels")

    def test_spoilt(self):
        self.assertGreater(check_spoilt(self, Spent(3), [JOINED, SPLIT]), 40)
        self.assertGreater(check_spoilt(self, StillOpen(1), [JOINED, SPLIT]), 40)
        for levels in (-1, True, False, None, "0", (0,)):
            self.assertFalse(Spent(levels).shows(COUNTS, Question([], [])))
            self.assertFalse(StillOpen(levels).shows(COUNTS, ALL_COUNTS))


class LevelsTest(unittest.TestCase):
    def test_by_sizes_then_by_numbers(self):
        proofs = proofs_of_levels(TREES, Question([X], [("tree", (X,))]), 4)
        self.assertEqual(len(proofs), 26)
        keys = [(proofs_size(one), numbers_of(one)) for one in proofs]
        self.assertEqual(keys, sorted(keys))
        self.assertEqual(max(proofs_levels(one) for one in proofs), 4)

    def test_levels_zero(self):
        self.assertEqual(proofs_of_levels(COUNTS, ALL_COUNTS, 0), [])
        self.assertEqual(proofs_of_levels(COUNTS, Question([X], []), 0), [()])
        self.assertEqual(proofs_of_levels(COUNTS, Question([], [("unlike", (1, 1))]), 0), [])

    def test_sixty_rules(self):
        proofs = proofs_of_levels(COUNTS, ALL_COUNTS, 60)
        self.assertEqual([proofs_size(one) for one in proofs], list(range(1, 61)))
        question = Question([X], [("in", (X, row_of(list(range(18)))))])
        proofs = proofs_of_levels(FOUND, question, 60)
        self.assertEqual([proofs_levels(one) for one in proofs], list(range(1, 19)))
        program = Program(list(TREES.rules) + [Rule(("wood", (X,)), [("equal", (X, Y)), ("tree", (Y,))])])
        shallow = ("fork", (wrapped_fork(4), wrapped_fork(3)))
        (proofs,) = proofs_of_levels(program, Question([], [("wood", (shallow,))]), 60)
        self.assertEqual(proofs_size(proofs), 1 + 1 + 31 + 15)

    def test_all_proofs_of_a_spent_question(self):
        source = random.Random(37)
        some = 0
        for _ in range(200):
            program, question = random_program(source), random_question(source)
            paper = judge_spent(program, question, 3)
            if paper:
                proofs = proofs_of_levels(program, question, paper.levels)
                self.assertEqual(proofs_of_levels(program, question, paper.levels + 1), proofs)
                by_size = [one for size in range(6) for one in proofs_of_size(program, question, size)]
                self.assertEqual([one for one in proofs if proofs_size(one) < 6], by_size)
                some += len(proofs)
        self.assertGreater(some, 60)

    def test_fewer_levels_are_those_with_fewer(self):
        question = Question([X], [("walk", (0, X))])
        every = proofs_of_levels(WALKS, question, 6)
        for levels in range(6):
            fewer = [one for one in every if proofs_levels(one) <= levels]
            self.assertEqual(proofs_of_levels(WALKS, question, levels), fewer)


def wrapped_fork(many):
    """A fork with so many levels of forks, all full."""
    return "leaf" if many == 0 else ("fork", (wrapped_fork(many - 1), wrapped_fork(many - 1)))


if __name__ == "__main__":
    unittest.main()
