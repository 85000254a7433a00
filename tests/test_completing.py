"""[12]: complete lists, and lists with the same instances."""

import random
import unittest

from proofsizes.answers import Answer, is_instance
from proofsizes.completing import Complete, OneSided, SameInstances, complete, judge_instances
from proofsizes.errors import BadAnswer, BadQuestion, TooLarge
from proofsizes.programs import Program, Question, Rule
from proofsizes.searching import Answered, Spent, StillOpen, answered, judge_spent, proofs_of_levels
from tests.samples import ALL_COUNTS, COUNTS, JOINED, SPLIT, X, Y, Z, random_program, random_question, wrapped
from tests.spoiling import check_spoilt
from tests.test_answers import random_answer


class CompleteTest(unittest.TestCase):
    def test_the_least_levels_and_all_answers(self):
        paper = complete(JOINED, SPLIT, 9)
        self.assertIsInstance(paper, Complete)
        self.assertIs(bool(paper), True)
        self.assertEqual(paper.levels, 3)
        self.assertEqual(paper.answers, tuple(answered(JOINED, SPLIT, 3)))
        self.assertTrue(paper.shows(JOINED, SPLIT))

    def test_still_open(self):
        self.assertEqual(complete(COUNTS, ALL_COUNTS, 4), StillOpen(4))
        self.assertEqual(complete(JOINED, SPLIT, 2), StillOpen(2))

    def test_nothing_asked_and_nothing_had(self):
        self.assertEqual(complete(COUNTS, Question([X], []), 3), Complete(0, [Answered(Answer([X], []), 0, ())]))
        self.assertEqual(complete(COUNTS, Question([X], [("equal", (1, 2))]), 3), Complete(0, ()))
        self.assertEqual(complete(COUNTS, Question([], [("count", (1,))]), 3), Complete(1, ()))

    def test_what_is_covered_is_left_out(self):
        program = Program([Rule(("p", (X,)), []), Rule(("p", ("a",)), [("p", ("b",)), ("q", ())]), Rule(("q", ()), [])])
        question = Question([X], [("p", (X,))])
        paper = complete(program, question, 5)
        self.assertEqual([one.answer for one in paper.answers], [Answer([X], [])])
        self.assertEqual(len(proofs_of_levels(program, question, paper.levels)), 2)

    def test_answers_of_one_size_ascend(self):
        program = Program([Rule(("p", (name,)), []) for name in ("c", ("f", ("a",)), "b", 3)])
        paper = complete(program, Question([X], [("p", (X,))]), 2)
        self.assertEqual([one.answer.terms[0] for one in paper.answers], [3, "b", "c", ("f", ("a",))])
        self.assertEqual([one.proofs for one in paper.answers], [((n, ()),) for n in (3, 2, 0, 1)])

    def test_the_same_as_by_sizes(self):
        source = random.Random(41)
        some = 0
        for _ in range(120):
            program, question = random_program(source), random_question(source)
            paper = complete(program, question, 3)
            self.assertTrue(paper.shows(program, question))
            spent = judge_spent(program, question, 3)
            if not spent:
                self.assertEqual(paper, spent)
            else:
                self.assertEqual(paper.levels, spent.levels)
                told = answered(program, question, 5)
                self.assertEqual([one for one in paper.answers if one.size <= 5], told)
                some += len(told)
        self.assertGreater(some, 40)

    def test_what_shows_takes(self):
        right = complete(JOINED, SPLIT, 9)
        self.assertTrue(Complete(3, list(right.answers)).shows(JOINED, SPLIT))
        for levels, answers in (
            (2, right.answers),
            (4, right.answers),
            (3, right.answers[:2]),
            (3, right.answers[::-1]),
            (3, right.answers + right.answers[:1]),
            (3, ()),
        ):
            self.assertFalse(Complete(levels, answers).shows(JOINED, SPLIT))
        self.assertFalse(Complete(4, ()).shows(COUNTS, ALL_COUNTS))

    def test_equal_to_the_like_alone(self):
        right = complete(JOINED, SPLIT, 9)
        self.assertEqual(right, complete(JOINED, SPLIT, 3))
        self.assertNotEqual(right, Complete(4, right.answers))
        self.assertNotEqual(right, Complete(3, ()))
        self.assertNotEqual(Complete(3, ()), Spent(3))

    def test_bad_levels(self):
        for most in (None, -1, True, "1"):
            with self.assertRaises(BadQuestion) as caught:
                complete(JOINED, SPLIT, most)
            self.assertEqual(caught.exception.part, "levels")

    def test_too_large(self):
        rules = [Rule(("p", (X,)), [("unlike", (X, 10 * n + m)) for m in range(6)]) for n in range(7)]
        program, question = Program(rules), Question([X, Y, Z], [("p", (X,)), ("p", (Y,)), ("p", (Z,))])
        for call in (lambda: complete(program, question, 3), lambda: Complete(1, ()).shows(program, question)):
            with self.assertRaises(TooLarge):
                call()

    def test_spoilt(self):
        self.assertGreater(check_spoilt(self, complete(JOINED, SPLIT, 3), [JOINED, SPLIT]), 300)
        program, question = Program([Rule(("p", (1,)), [])]), Question([X], [("p", (X,))])
        answer = Answer([1], [])
        self.assertTrue(Complete(1, [Answered(answer, 1, ((0, ()),))]).shows(program, question))
        self.assertFalse(Complete(1, [Answered(answer, True, ((0, ()),))]).shows(program, question))
        self.assertFalse(Complete(1, [Answered(answer, 1, ((False, ()),))]).shows(program, question))
        self.assertFalse(Complete(True, [Answered(answer, 1, ((0, ()),))]).shows(program, question))


class InstancesTest(unittest.TestCase):
    def same(self, one, other):
        paper = judge_instances(one, other)
        self.assertIsInstance(paper, SameInstances)
        self.assertIs(bool(paper), True)
        self.assertTrue(paper.shows(one, other))
        self.assertTrue(paper.shows(other, one))

    def one_sided(self, one, other):
        paper = judge_instances(one, other)
        self.assertIsInstance(paper, OneSided)
        self.assertIs(bool(paper), False)
        self.assertTrue(paper.shows(one, other))
        self.assertFalse(SameInstances().shows(one, other))
        self.assertFalse(OneSided(paper.row, not paper.is_first).shows(one, other))
        self.assertTrue(OneSided(paper.row, not paper.is_first).shows(other, one))
        return paper

    def test_the_same(self):
        self.same([], [])
        self.same([Answer([X], [])], [Answer([X], [[(X, "a")]]), Answer(["a"], [])])
        self.same([Answer([X], [[(X, "a")]]), Answer([X], [[(X, "b")]])], (Answer(["a"], []), Answer([Y], [])))
        self.same([Answer([], [])] * 2, [Answer([], [])])

    def test_one_sided(self):
        self.assertEqual(self.one_sided([Answer(["a"], [])], []), OneSided(("a",), True))
        self.assertEqual(self.one_sided([], [Answer(["a"], [])]), OneSided(("a",), False))
        paper = self.one_sided([Answer([X], [])], [Answer([X], [[(X, "a")]])])
        self.assertEqual(paper, OneSided(("a",), True))
        paper = self.one_sided([Answer([X, X], [])], [Answer([X, Y], [[(Y, "b")]]), Answer(["b", "b"], [])])
        self.assertFalse(paper.is_first)
        self.assertNotEqual(paper.row[0], paper.row[1])

    def test_the_first_side_comes_first(self):
        paper = self.one_sided([Answer(["a"], [])], [Answer(["b"], [])])
        self.assertEqual(paper, OneSided(("a",), True))

    def test_random(self):
        source = random.Random(43)
        kinds = {}
        for _ in range(200):
            one = [random_answer(source, 1)[2] for _ in range(source.randrange(0, 3))]
            other = list(one)
            if source.random() < 0.6:
                other = [random_answer(source, 1)[2] for _ in range(source.randrange(0, 3))] + one[:1]
            paper = judge_instances(one, other)
            self.assertTrue(paper.shows(one, other))
            if not paper:
                first = any(is_instance(answer, paper.row) for answer in one)
                second = any(is_instance(answer, paper.row) for answer in other)
                self.assertEqual((first, second), (paper.is_first, not paper.is_first))
            kinds[bool(paper) or paper.is_first, bool(paper)] = True
        self.assertEqual(len(kinds), 3)

    def test_what_shows_takes(self):
        one, other = [Answer([X], [[(X, "b")]])], [Answer([X], [[(X, "a")]])]
        self.assertTrue(OneSided(("a",), True).shows(one, other))
        self.assertTrue(OneSided(["b"], False).shows(one, other))
        for row, is_first in ((("a",), False), (("b",), True), (("c",), True), (("c",), False), ((), True),
                              (("a", "a"), True), ((X,), True), (("a",), 1), (("a",), None)):
            self.assertFalse(OneSided(row, is_first).shows(one, other))
        self.assertTrue(OneSided((wrapped(90, 1),), True).shows([Answer([X], [])], []))

    def test_bad_answers(self):
        good, wide = [Answer([X], [])], [Answer([X, Y], [])]
        for call in (judge_instances, SameInstances().shows, OneSided(("a",), True).shows):
            for one, other in ((None, good), (good, None), (good, wide), (wide, good), (good + wide, []), ([], [None]),
                               (good[0], good), (3, 4), ([()], [()])):
                with self.assertRaises(BadAnswer) as caught:
                    call(one, other)
                self.assertEqual(caught.exception.part, "answers")

    def test_too_large(self):
        many = [Answer([X], [[(X, 10 * n + m)] for m in range(6)]) for n in range(5)]
        every = [Answer([X], [])]
        for call in (judge_instances, SameInstances().shows):
            for one, other in ((every, many), (many, every), (many, many)):
                with self.assertRaises(TooLarge) as caught:
                    call(one, other)
                self.assertEqual(caught.exception.number, 7 ** 5)
            with self.assertRaises(TooLarge):
                call([Answer([Z], [])], many[::-1])
        self.assertFalse(OneSided(("a",), True).shows(every, many))
        self.same(every, many[:4])

    def test_equal_to_the_like_alone(self):
        self.assertEqual(SameInstances(), SameInstances())
        self.assertEqual(OneSided(["a"], True), OneSided(("a",), True))
        self.assertNotEqual(OneSided(("a",), True), OneSided(("a",), False))
        self.assertNotEqual(OneSided(("a",), True), OneSided(("b",), True))
        self.assertNotEqual(SameInstances(), True)

    def test_spoilt(self):
        one, other = [Answer([X, 1], [])], [Answer([("f", (X,)), Y], [])]
        paper = OneSided((("g", ("a", 1)), 1), True)
        self.assertGreater(check_spoilt(self, paper, [one, other]), 300)


if __name__ == "__main__":
    unittest.main()
