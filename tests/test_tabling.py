"""[28]: the told list by tables."""

import random
import unittest

from proofsizes.answers import Answer
from proofsizes.errors import BadQuestion, TooLarge
from proofsizes.programs import Program, Question, Rule
from proofsizes.searching import answered
from proofsizes.tabling import Tables, tabled, told_by
from tests.samples import ALL_COUNTS, COUNTS, JOINED, SPLIT, W, X, Y, Z, random_program, random_question, row_of, wrapped

EDGES = [("a", "b"), ("b", "c"), ("c", "a"), ("c", "d"), ("d", "e")]
PATHS = Program(
    [Rule(("edge", edge), []) for edge in EDGES]
    + [Rule(("path", (X, Y)), [("edge", (X, Y))]), Rule(("path", (X, Z)), [("path", (X, Y)), ("path", (Y, Z))])]
)
FIBS = Program(
    [
        Rule(("fib", (0,)), []),
        Rule(("fib", (wrapped(1, 0),)), []),
        Rule(("fib", (wrapped(2, X),)), [("fib", (wrapped(1, X),)), ("fib", (X,))]),
    ]
)


def by_search(program, question, most):
    return [(one.size, one.answer) for one in answered(program, question, most)]


def outcome(call, *arguments):
    """What a call returns, or the number of its TooLarge."""
    try:
        return call(*arguments)
    except TooLarge as large:
        return "too large", large.number


class TabledTest(unittest.TestCase):
    def check(self, program, question, most):
        told = by_search(program, question, most)
        self.assertEqual(tabled(program, question, most), told)
        # Without the short cut, too.
        self.assertEqual(told_by(Tables(program, question, most, False), most), told)

    def test_some_programs(self):
        for program, question, most in (
            (JOINED, SPLIT, 4), (COUNTS, ALL_COUNTS, 6), (PATHS, Question([X, Y], [("path", (X, Y))]), 6),
            (PATHS, Question([X], [("path", ("a", X)), ("path", (X, "e"))]), 8), (FIBS, Question([X], [("fib", (X,))]), 15),
            (FIBS, Question([], [("fib", (wrapped(5, 0),))]), 15), (COUNTS, Question([X], [("count", (X,)), ("count", (X,))]), 8),
        ):
            self.check(program, question, most)

    def test_sizes_0_and_1(self):
        question = Question([X], [("unlike", (X, 1)), ("equal", (Y, 2))])
        self.assertEqual(tabled(COUNTS, question, 0), [(0, Answer([X], [[(X, 1)]]))])
        self.assertEqual(tabled(COUNTS, question, 1), [(0, Answer([X], [[(X, 1)]]))])
        self.assertEqual(tabled(COUNTS, ALL_COUNTS, 0), [])
        self.assertEqual(tabled(COUNTS, ALL_COUNTS, 1), [(1, Answer([0], []))])
        self.assertEqual(tabled(COUNTS, Question([], [("equal", (1, 2))]), 3), [])
        self.assertEqual(tabled(COUNTS, Question([], [("unlike", (1, 1))]), 3), [])
        self.assertEqual(tabled(Program([]), ALL_COUNTS, 5), [])

    def test_random(self):
        source = random.Random(617)
        many = 0
        for _ in range(300):
            program, question = random_program(source), random_question(source)
            self.check(program, question, 5)
            many += len(tabled(program, question, 5))
        self.assertGreater(many, 100)

    def test_random_with_many_answers(self):
        source = random.Random(619)
        for _ in range(60):
            rules = []
            for name in "pq":
                rules.append(Rule((name, (source.choice([0, X, Y]), source.choice([0, ("s", (X,)), Y]))), []))
                goals = [(source.choice("pq"), (source.choice([X, Y, Z]), source.choice([X, Y, Z]))) for _ in range(source.choice([1, 2]))]
                goals += [("unlike", (source.choice([X, Y]), source.choice([Z, 0, 1])))] * source.randrange(2)
                rules.append(Rule((name, (source.choice([X, ("s", (X,))]), source.choice([Y, Z]))), goals))
            self.check(Program(rules), Question([X, Y], [(source.choice("pq"), (X, source.choice([Y, 0])))]), 5)

    def test_answers_covered_within(self):
        program = Program([Rule(("p", (X,)), []), Rule(("p", (("f", (X, Y)),)), [("p", (X,)), ("p", (Y,))]), Rule(("q", (X,)), [("p", (X,)), ("p", (X,))])])
        self.check(program, Question([X, Y], [("p", (X,)), ("q", (Y,))]), 7)
        self.assertEqual(tabled(program, Question([X], [("q", (X,))]), 200), [(3, Answer([X], []))])

    def test_answers_of_the_same_size_are_all_told(self):
        # The less general one is told first, by the order of what is told of one size.
        program = Program([Rule(("p", (X, Y)), []), Rule(("p", (0, X)), []), Rule(("q", (X, Y)), [("p", (X, Y))])])
        told = [(2, Answer([0, X], [])), (2, Answer([X, Y], []))]
        self.assertEqual(tabled(program, Question([X, Y], [("q", (X, Y))]), 4), told)

    def test_far_sizes(self):
        sizes = [1, 1, 3, 5, 9, 15, 25, 41, 67, 109, 177, 287, 465]
        told = tabled(FIBS, Question([X], [("fib", (X,))]), 500)
        self.assertEqual(told, [(size, Answer([wrapped(at, 0)], [])) for at, size in enumerate(sizes)])
        self.assertEqual(tabled(FIBS, Question([], [("fib", (wrapped(13, 0),))]), 753), [(753, Answer([], []))])
        self.assertEqual(tabled(FIBS, Question([], [("fib", (wrapped(13, 0),))]), 752), [])
        twice = Program([Rule(("p", (0,)), []), Rule(("p", (wrapped(1, X),)), [("p", (X,)), ("p", (X,))])])
        self.assertEqual(tabled(twice, Question([X], [("p", (X,))]), 300), [(2 ** (at + 1) - 1, Answer([wrapped(at, 0)], [])) for at in range(8)])

    def test_calls_that_come_again_and_again(self):
        told = tabled(PATHS, Question([X], [("path", ("a", X))]), 120)
        self.assertEqual(sorted(answer.terms[0] for _, answer in told), ["a", "b", "c", "d", "e"])
        self.assertEqual(told, by_search(PATHS, Question([X], [("path", ("a", X))]), 8) + told[4:])
        self.assertEqual(tabled(PATHS, Question([X], [("path", ("e", X))]), 120), [])
        left = Program(list(PATHS.rules[:6]) + [Rule(("path", (X, Z)), [("path", (X, Y)), ("edge", (Y, Z)), ("unlike", (X, Z))])])
        self.assertEqual([size for size, _ in tabled(left, Question([X], [("path", ("a", X))]), 100)], [2, 4, 6, 8])

    def test_answers_with_inequations_again_and_again(self):
        program = Program([Rule(("p", (X, Y)), [("unlike", (X, Y))]), Rule(("p", (X, Z)), [("p", (X, Y)), ("p", (Y, Z))])])
        self.assertEqual(tabled(program, Question([X, Y], [("p", (X, Y))]), 40), [(1, Answer([X, Y], [[(X, Y)]])), (3, Answer([X, Y], []))])
        self.check(program, Question([X, Y], [("p", (X, Y))]), 7)

    def test_many_terms(self):
        reverse = Program(
            [
                Rule(("app", ("none", X, X)), []),
                Rule(("app", (("row", (X, Y)), Z, ("row", (X, W)))), [("app", (Y, Z, W))]),
                Rule(("rev", ("none", "none")), []),
                Rule(("rev", (("row", (X, Y)), Z)), [("rev", (Y, W)), ("app", (W, ("row", (X, "none")), Z))]),
            ]
        )
        things = list("abcdefgh")
        told = tabled(reverse, Question([X], [("rev", (row_of(things), X))]), 60)
        self.assertEqual(told, [(45, Answer([row_of(things[::-1])], []))])
        self.assertEqual(len(tabled(reverse, Question([X, Y], [("app", (X, Y, row_of(things)))]), 60)), 9)


class WrongTest(unittest.TestCase):
    def test_sizes(self):
        for most in (None, -1, True, "1", ()):
            with self.assertRaises(BadQuestion) as caught:
                tabled(COUNTS, ALL_COUNTS, most)
            self.assertEqual(caught.exception.part, "size")

    def test_too_large_as_of_the_told_list(self):
        unknowns = [("?", at) for at in range(5)]
        pairs = [(one, other) for at, one in enumerate(unknowns) for other in unknowns[at + 1 :]]
        for many in (5, 6, 7, 8):
            rules = [Rule(("p", unknowns), [("unlike", pair) for pair in pairs[at : at + 3]]) for at in range(many)]
            program = Program(rules + [Rule(("p", unknowns), [("p", unknowns[::-1])]), Rule(("p", (0, 1, 2, 3, 4)), [])])
            for most in (1, 2, 3):
                question = Question(unknowns, [("p", unknowns)])
                told = outcome(by_search, program, question, most)
                self.assertEqual(outcome(tabled, program, question, most), told)
        self.assertEqual(told[0], "too large")

    def test_lists_are_new(self):
        tabled(COUNTS, ALL_COUNTS, 3).append(None)
        self.assertEqual(len(tabled(COUNTS, ALL_COUNTS, 3)), 3)


if __name__ == "__main__":
    unittest.main()
