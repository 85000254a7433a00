"""[19]: facts from below."""

import random
import unittest

from proofsizes.answers import Answer
from proofsizes.errors import BadQuestion
from proofsizes.forward import facts_of_size
from proofsizes.programs import Program, Question, Rule
from proofsizes.proofs import answer_of
from proofsizes.searching import proofs_of_size
from tests.plain import answer_key
from tests.samples import COUNTS, JOINED, X, Y, Z, random_program, relation, row_of, wrapped
from tests.test_searching import SUMS, TREES, WALKS


def asked_facts(program, size):
    """The facts of a size, by asking for the proofs of each relation."""
    found = {}
    for wanted in sorted({relation(rule.head) for rule in program.rules}):
        terms = [("?", at) for at in range(wanted[1])]
        question = Question(terms, [(wanted[0], terms)])
        answers = {}
        for proofs in proofs_of_size(program, question, size):
            answer = answer_of(program, question, proofs)
            answers[answer_key(answer)] = answer
        if answers:
            found[wanted] = [answers[key] for key in sorted(answers)]
    return found


class FactsTest(unittest.TestCase):
    def check(self, program, sizes):
        for size in sizes:
            facts = facts_of_size(program, size)
            self.assertEqual(facts, asked_facts(program, size))
            self.assertEqual(list(facts), sorted(facts))

    def test_some_programs(self):
        for program in (JOINED, COUNTS, SUMS, TREES, WALKS):
            self.check(program, range(9))

    def test_by_hand(self):
        self.assertEqual(facts_of_size(COUNTS, 3), {("count", 1): [Answer([wrapped(2, 0)], [])]})
        row = ("row", ("a", X))
        self.assertEqual(facts_of_size(JOINED, 2), {("joined", 3): [Answer([row_of(["a"]), X, row], [])]})
        self.assertEqual(list(facts_of_size(SUMS, 1)), [("count", 1), ("sum", 3)])
        self.assertEqual(facts_of_size(TREES, 2), {})
        self.assertEqual([len(facts_of_size(TREES, size).get(("tree", 1), [])) for size in (1, 3, 5, 7)], [1, 1, 2, 5])

    def test_size_zero_and_no_rules(self):
        self.assertEqual(facts_of_size(COUNTS, 0), {})
        self.assertEqual(facts_of_size(Program([]), 0), {})
        self.assertEqual(facts_of_size(Program([]), 3), {})

    def test_relations_without_terms(self):
        program = Program([Rule(("p", ()), [("q", ())]), Rule(("q", ()), []), Rule(("q", ()), [("p", ())]),
                           Rule(("q", (X,)), [("p", ()), ("q", ())])])
        empty = Answer([], [])
        self.assertEqual(facts_of_size(program, 1), {("q", 0): [empty]})
        self.assertEqual(facts_of_size(program, 2), {("p", 0): [empty]})
        self.assertEqual(facts_of_size(program, 4), {("p", 0): [empty], ("q", 1): [Answer([X], [])]})
        self.check(program, range(9))

    def test_own_goals_and_inequations(self):
        program = Program(
            [
                Rule(("p", (X, Y)), [("unlike", (X, Y)), ("unlike", (X, "a"))]),
                Rule(("q", (X,)), [("p", (X, Y)), ("p", (Y, "b")), ("equal", (Z, X)), ("unlike", (Z, "c"))]),
                Rule(("q", ("a",)), [("p", (X, Y)), ("equal", (X, Y))]),
                Rule(("q", ("a",)), [("equal", (1, 2))]),
                Rule(("q", ("a",)), [("unlike", (X, X))]),
            ]
        )
        self.check(program, range(6))
        self.assertEqual(facts_of_size(program, 1), {("p", 2): [Answer([X, Y], [[(X, "a")], [(Y, X)]])]})
        self.assertEqual(facts_of_size(program, 3), {("q", 1): [Answer([X], [[(X, "a")], [(X, "c")]])]})

    def test_unlike_answers_alone_in_their_order(self):
        heads = [("b", 1), (X, X), ("a", 1), (X, Y), ("a", 1), (Z, 3), (("f", (X,)), 0)]
        program = Program([Rule(("p", head), []) for head in heads] + [Rule(("p", (X, Y)), [("unlike", (X, Y))])])
        rows = [Answer(["a", 1], []), Answer(["b", 1], []), Answer([X, 3], []), Answer([X, X], []), Answer([X, Y], []),
                Answer([X, Y], [[(X, Y)]]), Answer([("f", (X,)), 0], [])]
        self.assertEqual(facts_of_size(program, 1), {("p", 2): rows})

    def test_random(self):
        source = random.Random(91)
        for _ in range(120):
            self.check(random_program(source), range(6))

    def test_deep_terms(self):
        big = Program([Rule(("big", (0,)), []), Rule(("big", (wrapped(19, X),)), [("big", (X,))])])
        self.assertEqual(facts_of_size(big, 8)["big", 1][0].terms, (wrapped(19 * 7, 0),))

    def test_bad_sizes(self):
        for size in (None, -1, True, False, "1", (), 1.0):
            with self.assertRaises(BadQuestion) as caught:
                facts_of_size(COUNTS, size)
            self.assertEqual(caught.exception.part, "size")

    def test_dicts_and_lists_are_new(self):
        first, second = facts_of_size(SUMS, 2), facts_of_size(SUMS, 2)
        first["count", 1].append(None)
        first["more", 1] = []
        self.assertEqual(second, asked_facts(SUMS, 2))
        self.assertEqual(facts_of_size(SUMS, 2), second)


if __name__ == "__main__":
    unittest.main()
