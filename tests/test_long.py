"""[15], [23] to [25], [27], [32], [43]: integers of many figures, in texts, in names, and elsewhere."""

import random
import sys
import unittest

from proofsizes.answers import Answer, is_instance
from proofsizes.congruence import judge_equal, least_equal
from proofsizes.flat import facts
from proofsizes.gaps import Placed, judge_gaps
from proofsizes.patterns import NotIn, judge_pattern, some_in
from proofsizes.programs import Program, Question, Rule
from proofsizes.prooftexts import write_proofs
from proofsizes.regular import TermSet
from proofsizes.searching import answered
from proofsizes.shallow import Has, judge_shallow, least_terms
from proofsizes.solving import solve
from proofsizes.terms import integer_text, unknown_text
from proofsizes.texts import write_answer
from tests.samples import X, Y

LONG = 10 ** 5000
TEXT = "1" + "0" * 5000
UNKNOWN = ("?", LONG)
ONE = TermSet(2, {"a": 1}, {}, 0, [1])


class TextTest(unittest.TestCase):
    def test_integers(self):
        source = random.Random(983)
        limit = sys.get_int_max_str_digits()
        sys.set_int_max_str_digits(0)
        try:
            numbers = [0, 7, -7, 10 ** 63, 10 ** 64, 10 ** 64 - 1, -(10 ** 64), 10 ** 128 + 5, 10 ** 4299, 10 ** 4300, -(10 ** 4300), LONG, 1 - LONG]
            numbers += [source.randrange(10 ** many) for many in (1, 20, 64, 65, 200, 6000)]
            expected = [(number, str(number)) for number in numbers]
        finally:
            sys.set_int_max_str_digits(limit)
        for number, text in expected:
            self.assertEqual(integer_text(number), text)
        self.assertEqual([unknown_text(name) for name in ("x", 0, LONG)], ["x", "0", TEXT])

    def test_answers(self):
        self.assertEqual(write_answer(Answer([LONG], [])), TEXT + ".")
        self.assertEqual(write_answer(Answer([-LONG, "a"], [])), "-" + TEXT + ", a.")
        self.assertEqual(write_answer(Answer([("f", (X, ("g", (LONG - 1,))))], [])), "f(?0, g(" + "9" * 5000 + ")).")
        self.assertEqual(write_answer(Answer([X, Y], [[(X, LONG), (Y, -LONG)]])), "?0, ?1 if not (?0 = " + TEXT + ", ?1 = -" + TEXT + ").")
        self.assertEqual(write_answer(Answer([UNKNOWN], [[(UNKNOWN, LONG)]])), "?0 if ?0 /= " + TEXT + ".")

    def test_proofs(self):
        program = Program([Rule(("p", (LONG, ("f", (-LONG,)))), []), Rule(("q", (X,)), [("p", (Y, X))])])
        question = Question([X], [("q", (X,))])
        text = "0 p(" + TEXT + ", f(-" + TEXT + "))"
        self.assertEqual(write_proofs(program, question, ((1, ((0, ()),)),)), "1 q(f(-" + TEXT + "))\n  " + text)


class NameTest(unittest.TestCase):
    """Unknowns that are called by long integers."""

    def test_patterns(self):
        paper = judge_pattern(ONE, UNKNOWN)
        self.assertIsInstance(paper, NotIn)
        self.assertEqual(list(paper.terms), [LONG])
        self.assertIs(paper.shows(ONE, UNKNOWN), True)
        self.assertIs(NotIn({LONG + 1: 0}).shows(ONE, UNKNOWN), False)
        self.assertIs(NotIn({}).shows(ONE, UNKNOWN), False)
        self.assertIs(paper.shows(ONE, X), False)
        self.assertEqual(some_in(ONE, UNKNOWN), {LONG: "a"})
        self.assertIs(bool(judge_pattern(TermSet(1, {}, {}, 0, [0]), UNKNOWN)), True)

    def test_they_ascend_as_texts(self):
        names = ["x", 9, 10, LONG, 2 * LONG, 0, "a1", 10 ** 4999]
        expected = [0, 10, 10 ** 4999, LONG, 2 * LONG, 9, "a1", "x"]
        pattern = ("f", tuple(("?", name) for name in names))
        self.assertEqual(list(judge_pattern(TermSet(1, {}, {}, 0, []), pattern).terms), expected)
        self.assertEqual(list(some_in(TermSet(1, {}, {}, 0, [0]), pattern)), expected)
        program = Program([Rule(("p", (X,)), [])])
        question = Question([], [("p", (pattern,))])
        paper = judge_shallow(program, question)
        self.assertEqual(list(paper.terms), expected)
        self.assertIs(paper.shows(program, question), True)

    def test_shallow(self):
        program = Program([Rule(("p", (LONG,)), [])])
        question = Question([], [("p", (UNKNOWN,))])
        paper = judge_shallow(program, question)
        self.assertEqual(paper, Has({LONG: LONG}))
        self.assertIs(paper.shows(program, question), True)
        for wrong in ({}, {"x": LONG}, {LONG: LONG, 0: "a"}, {LONG: "a"}, {-LONG: LONG}, {True: LONG}, None, {LONG: UNKNOWN}):
            self.assertIs(Has(wrong).shows(program, question), False)
        self.assertIs(Has({LONG: LONG}).shows(program, Question([], [("p", (X,))])), False)
        self.assertIs(Has({"x": LONG}).shows(program, Question([], [("p", (X,))])), True)
        self.assertEqual(least_terms(program), {(): 0, ("p",): LONG})


class ElsewhereTest(unittest.TestCase):
    """No other part makes texts of integers."""

    def test_terms_and_answers(self):
        self.assertEqual(solve([(UNKNOWN, LONG), (X, UNKNOWN)]).bound, {LONG: LONG, "x": LONG})
        self.assertIs(is_instance(Answer([X], [[(X, LONG)]]), (LONG,)), False)
        program = Program([Rule(("p", (LONG,)), []), Rule(("p", (-LONG,)), [])])
        told = answered(program, Question([UNKNOWN], [("p", (UNKNOWN,))]), 1)
        self.assertEqual([one.answer.terms for one in told], [(-LONG,), (LONG,)])
        self.assertEqual(facts(program), (("p", (-LONG,)), ("p", (LONG,))))

    def test_bounds_and_equal_terms(self):
        bounds = [("a", "b", LONG), ("b", None, -LONG)]
        self.assertIsInstance(judge_gaps(bounds), Placed)
        self.assertIs(judge_gaps(bounds).shows(bounds), True)
        self.assertIs(bool(judge_equal([(LONG, "a"), ("a", -LONG)], (LONG, -LONG))), True)
        self.assertEqual(least_equal([(LONG, "a")], "a"), LONG)


if __name__ == "__main__":
    unittest.main()
