"""[20]: answers as they come."""

import itertools
import random
import unittest

from proofsizes.answers import Answer
from proofsizes.covering import judge_covered
from proofsizes.errors import BadQuestion
from proofsizes.programs import Program, Question, Rule
from proofsizes.proofs import answer_of
from proofsizes.searching import answered, proofs_of_levels
from proofsizes.streams import Came, from_left, in_turns, open_answers
from tests.plain import Binding
from tests.samples import ALL_COUNTS, COUNTS, JOINED, SPLIT, X, Y, Z, can_be, numbers_of, parted, random_program
from tests.samples import random_question, relation, tagged, wrapped
from tests.test_searching import SUMS, TREES, WALKS


class SlowWay:
    """Open goals, what was asked so far, and the numbers of the rules that were taken."""

    def __init__(self, goals, equations, inequations, numbers):
        self.goals, self.equations, self.inequations, self.numbers = goals, equations, inequations, numbers


def slow_first(question):
    goals, equations, inequations = parted([tagged(goal, "q") for goal in question.goals])
    return [SlowWay(goals, equations, inequations, [])] if can_be(equations, inequations) else []


def slow_behind(program, way):
    """The ways behind a step, in the order of the rules."""
    found = []
    for number, rule in enumerate(program.rules):
        if relation(rule.head) == relation(way.goals[0]):
            tag = "r" + str(len(way.numbers)) + "x"
            goals, equations, inequations = parted([tagged(goal, tag) for goal in rule.goals])
            equations = way.equations + list(zip(way.goals[0][1], tagged(rule.head, tag)[1])) + equations
            inequations = way.inequations + inequations
            if can_be(equations, inequations):
                found.append(SlowWay(goals + way.goals[1:], equations, inequations, way.numbers + [number]))
    return found


def slow_came(program, question, steps, is_left):
    """The numbers of the proofs that come, the steps that were made, and whether all is over."""
    row = slow_first(question)
    told = []
    made = 0
    while row:
        way = row[0]
        if not way.goals:
            told.append(way.numbers)
            row = row[1:]
        elif made == steps:
            return told, made, False
        else:
            made += 1
            behind = slow_behind(program, way)
            row = behind + row[1:] if is_left else row[1:] + behind
    return told, made, True


def slow_open(program, question, levels):
    """The answers of the ways behind so many steps each."""
    row = slow_first(question)
    for _ in range(levels):
        row = [one for way in row for one in (slow_behind(program, way) if way.goals else [way])]
    found = []
    for way in row:
        binding = Binding()
        binding.make_same(way.equations)
        asked = [tagged(("p", (term,)), "q")[1][0] for term in question.terms]
        rows = [[tuple(binding.resolved(pair)) for pair in pairs] for pairs in way.inequations]
        answer = Answer(binding.resolved(asked), rows)
        if answer not in found:
            found.append(answer)
    return found


def told(came):
    return [numbers_of(proofs) for proofs in came.proofs], came.steps, came.is_over


LEFT = Program([Rule(("p", (wrapped(1, X),)), [("p", (X,))]), Rule(("p", (0,)), [])])


class CameTest(unittest.TestCase):
    def test_from_left_step_by_step(self):
        self.assertEqual(told(from_left(JOINED, SPLIT, 0)), ([], 0, False))
        self.assertEqual(told(from_left(JOINED, SPLIT, 1)), ([[0]], 1, False))
        self.assertEqual(told(from_left(JOINED, SPLIT, 2)), ([[0], [1, 0]], 2, False))
        self.assertEqual(told(from_left(JOINED, SPLIT, 3)), ([[0], [1, 0], [1, 1, 0]], 3, True))
        self.assertEqual(from_left(JOINED, SPLIT, 3), from_left(JOINED, SPLIT, 99))

    def test_in_turns_step_by_step(self):
        question = Question([X, Y], [("walk", (0, X)), ("step", (X, Y))])
        for steps in range(40):
            came = in_turns(WALKS, question, steps)
            self.assertEqual(told(came), slow_came(WALKS, question, steps, False))
            self.assertIsInstance(came.proofs, tuple)
            self.assertIs(came.is_over, False)
        self.assertGreater(len(in_turns(WALKS, question, 39).proofs), 5)

    def test_the_left_may_never_come_to_an_end(self):
        question = Question([X], [("p", (X,))])
        self.assertEqual(told(from_left(LEFT, question, 50)), ([], 50, False))
        self.assertEqual(told(in_turns(LEFT, question, 3)), ([[1], [0, 1]], 3, False))
        deep = Question([X], [("p", (wrapped(9, 0),))])
        self.assertEqual(told(from_left(LEFT, deep, 50)), ([[0] * 9 + [1]], 10, True))
        self.assertEqual(told(in_turns(LEFT, deep, 50)), ([[0] * 9 + [1]], 10, True))

    def test_what_comes_at_the_last_step_still_comes(self):
        question = Question([X], [("p", (0,))])
        for call in (from_left, in_turns):
            self.assertEqual(told(call(LEFT, question, 0)), ([], 0, False))
            self.assertEqual(told(call(LEFT, question, 1)), ([[1]], 1, True))

    def test_no_relation_goals(self):
        for call in (from_left, in_turns):
            for steps in (0, 3):
                self.assertEqual(call(LEFT, Question([X], []), steps), Came(((),), 0, True))
                self.assertEqual(call(LEFT, Question([], [("unlike", (X, 1))]), steps), Came([()], 0, True))
                self.assertEqual(call(LEFT, Question([X], [("equal", (1, 2))]), steps), Came((), 0, True))
                self.assertEqual(call(LEFT, Question([], [("p", (X,)), ("unlike", (X, X))]), steps), Came((), 0, True))
            self.assertEqual(call(LEFT, Question([], [("none", ())]), 0), Came((), 0, False))
            self.assertEqual(call(LEFT, Question([], [("none", ())]), 1), Came((), 1, True))

    def test_a_rules_goals_come_ahead_of_the_others(self):
        program = Program([Rule(("p", ()), [("q", (1,)), ("q", (2,))]), Rule(("q", (X,)), []), Rule(("r", ()), [("r", ())])])
        question = Question([], [("p", ()), ("r", ())])
        self.assertEqual(told(from_left(program, question, 3)), ([], 3, False))
        first = Question([], [("r", ()), ("q", (3,))])
        self.assertEqual(told(from_left(program, first, 9)), ([], 9, False))
        bad = Question([], [("p", ()), ("none", ())])
        self.assertEqual(told(from_left(program, bad, 9)), ([], 4, True))

    def test_what_was_asked_must_be_possible(self):
        program = Program([Rule(("p", (X,)), [("q", (X,)), ("unlike", (X, 1))]), Rule(("q", (1,)), []), Rule(("q", (2,)), [])])
        question = Question([X], [("p", (X,))])
        self.assertEqual(told(from_left(program, question, 9)), ([[0, 2]], 2, True))
        question = Question([X], [("p", (X,)), ("unlike", (X, 2))])
        self.assertEqual(told(in_turns(program, question, 9)), ([], 2, True))

    def test_the_same_as_by_whole_rows(self):
        source = random.Random(95)
        over = some = 0
        for _ in range(150):
            program, question = random_program(source), random_question(source)
            for steps in (0, 1, 2, 5, 14):
                for call, is_left in ((from_left, True), (in_turns, False)):
                    came = call(program, question, steps)
                    self.assertEqual(told(came), slow_came(program, question, steps, is_left))
                    over += came.is_over
                    some += len(came.proofs)
        self.assertGreater(over, 100)
        self.assertGreater(some, 200)

    def test_the_same_proofs_by_every_road(self):
        source = random.Random(97)
        some = 0
        for _ in range(150):
            program, question = random_program(source), random_question(source)
            left, turns = from_left(program, question, 60), in_turns(program, question, 60)
            if left.is_over:
                self.assertEqual((turns.is_over, turns.steps), (True, left.steps))
                self.assertEqual(sorted(left.proofs, key=str), sorted(turns.proofs, key=str))
                self.assertEqual(sorted(left.proofs, key=str), sorted(proofs_of_levels(program, question, 60), key=str))
                some += len(left.proofs)
            for proofs in left.proofs + turns.proofs:
                self.assertIsNotNone(answer_of(program, question, proofs))
        self.assertGreater(some, 30)

    def test_many_steps(self):
        came = from_left(COUNTS, ALL_COUNTS, 400)
        self.assertEqual((len(came.proofs), came.steps, came.is_over), (400, 400, False))
        self.assertEqual(in_turns(COUNTS, ALL_COUNTS, 400), came)
        came = in_turns(TREES, Question([X], [("tree", (X,))]), 400)
        self.assertEqual(came.steps, 400)
        double = Program([Rule(("p", (X,)), [("p", (("f", (X, X)),))]), Rule(("q", (X,)), [("p", (X,))])])
        for call in (from_left, in_turns):
            self.assertEqual(told(call(double, Question([], [("q", (X,))]), 60)), ([], 60, False))

    def test_equal_to_the_like_alone(self):
        came = from_left(JOINED, SPLIT, 3)
        self.assertEqual(came, Came(list(came.proofs), 3, True))
        self.assertNotEqual(came, Came(came.proofs[:2], 3, True))
        self.assertNotEqual(came, Came(came.proofs, 2, True))
        self.assertNotEqual(came, Came(came.proofs, 3, False))
        self.assertNotEqual(came, (came.proofs, 3, True))

    def test_bad_steps(self):
        for steps in (None, -1, True, False, "1", (), 1.0):
            for call in (from_left, in_turns):
                with self.assertRaises(BadQuestion) as caught:
                    call(JOINED, SPLIT, steps)
                self.assertEqual(caught.exception.part, "steps")


class OpenAnswersTest(unittest.TestCase):
    def terms(self, program, question, levels):
        return [answer.terms for answer in open_answers(program, question, levels)]

    def test_goals_left_open(self):
        self.assertEqual(open_answers(COUNTS, ALL_COUNTS, 0), [Answer([X], [])])
        self.assertEqual(open_answers(COUNTS, ALL_COUNTS, 1), [Answer([0], []), Answer([wrapped(1, X)], [])])
        many = self.terms(COUNTS, ALL_COUNTS, 5)
        self.assertEqual(many, [(wrapped(at, 0),) for at in range(5)] + [(wrapped(5, ("?", 0)),)])

    def test_ways_without_open_goals_stay(self):
        self.assertEqual(self.terms(JOINED, SPLIT, 9), [one.answer.terms for one in answered(JOINED, SPLIT, 3)])
        self.assertEqual(open_answers(JOINED, SPLIT, 3), open_answers(JOINED, SPLIT, 9))

    def test_one_step_each(self):
        question = Question([X, Y], [("count", (X,)), ("count", (Y,))])
        self.assertEqual(self.terms(COUNTS, question, 1), [(0, ("?", 0)), (wrapped(1, ("?", 0)), ("?", 1))])
        self.assertEqual(len(self.terms(COUNTS, question, 2)), 4)

    def test_unlike_answers_as_they_come_first(self):
        program = Program([Rule(("p", (X,)), [("q", (X,))]), Rule(("p", (2,)), []), Rule(("p", (1,)), []), Rule(("p", (2,)), []),
                           Rule(("p", (X,)), [("unlike", (X, 3))])])
        question = Question([X], [("p", (X,))])
        rows = [Answer([X], []), Answer([2], []), Answer([1], []), Answer([X], [[(X, 3)]])]
        self.assertEqual(open_answers(program, question, 1), rows)
        self.assertEqual(open_answers(program, question, 2), rows[1:])

    def test_no_ways(self):
        self.assertEqual(open_answers(COUNTS, Question([X], [("equal", (1, 2)), ("count", (X,))]), 0), [])
        self.assertEqual(open_answers(COUNTS, Question([X], [("none", (X,))]), 0), [Answer([X], [])])
        self.assertEqual(open_answers(COUNTS, Question([X], [("none", (X,))]), 1), [])
        self.assertEqual(open_answers(COUNTS, Question([X], [("unlike", (X, 1))]), 4), [Answer([X], [[(X, 1)]])])

    def test_answers_are_covered_by_them_together(self):
        source = random.Random(101)
        some = 0
        for _ in range(80):
            program, question = random_program(source), random_question(source)
            every = [one.answer for one in answered(program, question, 4)]
            for levels in range(4):
                found = open_answers(program, question, levels)
                self.assertEqual(found, slow_open(program, question, levels))
                if len(found) < 9:
                    for answer in every:
                        self.assertTrue(judge_covered(answer, found))
                        some += 1
        self.assertGreater(some, 100)

    def test_bad_levels(self):
        for levels in (None, -1, True, False, "1", (), 1.0):
            with self.assertRaises(BadQuestion) as caught:
                open_answers(JOINED, SPLIT, levels)
            self.assertEqual(caught.exception.part, "levels")

    def test_lists_are_new(self):
        first = open_answers(JOINED, SPLIT, 2)
        first.append(None)
        self.assertEqual(len(open_answers(JOINED, SPLIT, 2)), len(first) - 1)

    def test_sums(self):
        question = Question([X, Y], [("sum", (X, Y, wrapped(3, 0))), ("unlike", (X, Z))])
        for levels in range(6):
            self.assertEqual(open_answers(SUMS, question, levels), slow_open(SUMS, question, levels))


if __name__ == "__main__":
    unittest.main()
