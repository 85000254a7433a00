"""[10], [28]: sizes that are far greater than those of all proofs."""

import random
import unittest

from proofsizes.answers import Answer
from proofsizes.completing import complete
from proofsizes.errors import BadQuestion, TooLarge
from proofsizes.finding import MOST_IN_TURN, OfSize, Sizes, found_proofs, spent_behind
from proofsizes.growing import Growing, told_by_sizes, told_growing
from proofsizes.programs import Program, Question, Rule
from proofsizes.proofs import proofs_size
from proofsizes.searching import answered, proofs_of_size
from proofsizes.tabling import tabled
from proofsizes.ways import Ways
from tests.samples import ALL_COUNTS, COUNTS, JOINED, SPLIT, X, Y, Z, random_program, random_question, wrapped
from tests.test_tabling import FIBS, PATHS, outcome

LARGE = 10 ** 12
LOOP = Program([Rule(("p", ("a",)), []), Rule(("p", (X,)), [("p", (X,))]), Rule(("p", ("b",)), [("p", ("a",)), ("p", ("a",))])])
TWICE = Program([Rule(("p", (0,)), []), Rule(("p", (("s", (X,)),)), [("p", (X,)), ("p", (X,))])])
ODD = Program([Rule(("p", ("a",)), []), Rule(("p", (X,)), [("p", (X,)), ("p", (X,))])])
# By themselves the goals of nat have ever more answers, but the question has one proof.
TINY = Program([Rule(("nat", (0,)), []), Rule(("nat", (wrapped(1, X),)), [("nat", (X,))]), Rule(("tiny", (wrapped(1, 0),)), [])])
ALL = Question([X], [("p", (X,))])


def pairs(told):
    return [(one.size, one.answer) for one in told]


class LargeTest(unittest.TestCase):
    def check(self, program, question, most=LARGE):
        """What is told of all sizes, by search and by tables."""
        told = answered(program, question, most)
        self.assertEqual(tabled(program, question, most), pairs(told))
        for one in told:
            self.assertIs(one.shows(program, question), True)
            self.assertIn(one.proofs, proofs_of_size(program, question, one.size))
        return pairs(told)

    def test_questions_that_are_spent(self):
        self.assertEqual(self.check(JOINED, SPLIT), pairs(answered(JOINED, SPLIT, 9)))
        self.assertEqual(self.check(FIBS, Question([], [("fib", (wrapped(9, 0),))])), [(109, Answer([], []))])
        self.assertEqual(self.check(TWICE, Question([], [("p", (wrapped(9, 0),))])), [(1023, Answer([], []))])
        self.assertEqual(self.check(Program([]), ALL), [])
        self.assertEqual(self.check(COUNTS, Question([X], [])), [(0, Answer([X], []))])
        self.assertEqual(self.check(COUNTS, Question([], [("equal", (1, 2))])), [])
        self.assertEqual(self.check(TINY, Question([X], [("nat", (X,)), ("tiny", (X,))])), [(3, Answer([wrapped(1, 0)], []))])

    def test_no_proofs_of_such_a_size(self):
        for program, question in ((JOINED, SPLIT), (TWICE, Question([], [("p", (wrapped(9, 0),))])), (COUNTS, Question([], [])), (PATHS, Question([], [("edge", ("a", X))])),
                                  (TINY, Question([X], [("nat", (X,)), ("tiny", (X,))])), (Program([]), ALL), (COUNTS, Question([], [("equal", (1, 2))])), (ODD, ALL)):
            for size in (LARGE, 10 ** 30, 1002, MOST_IN_TURN + 4):
                self.assertEqual(proofs_of_size(program, question, size), [], size)

    def test_endless_many_proofs_of_few_answers(self):
        self.assertEqual(self.check(LOOP, ALL), [(1, Answer(["a"], [])), (3, Answer(["b"], []))])
        self.assertEqual(self.check(ODD, ALL), [(1, Answer(["a"], []))])
        self.assertEqual(self.check(PATHS, Question([X, Y], [("path", (X, Y))])), pairs(answered(PATHS, Question([X, Y], [("path", (X, Y))]), 12)))

    def test_proofs_of_more_than_1000_rules(self):
        for size in (1001, 1500):
            proofs = proofs_of_size(Program(LOOP.rules[:2]), ALL, size)
            self.assertEqual([proofs_size(one) for one in proofs], [size])
        question = Question([], [("p", (wrapped(10, 0),))])
        self.assertEqual([proofs_size(one) for one in proofs_of_size(TWICE, question, 2047)], [2047])
        self.assertEqual(proofs_of_size(TWICE, question, 2046), [])
        self.assertEqual([size for size, _ in tabled(TWICE, ALL, 5000)], [2 ** at - 1 for at in range(1, 13)])
        self.assertEqual([size for size, _ in tabled(TWICE, Question([], [("p", (wrapped(19, 0),))]), LARGE)], [2 ** 20 - 1])

    def test_the_size_is_a_bound(self):
        question = Question([], [("p", (wrapped(10, 0),))])
        self.assertEqual(tabled(TWICE, question, 2046), [])
        self.assertEqual(len(tabled(TWICE, question, 2047)), 1)
        self.assertEqual(answered(TWICE, question, 2046), [])
        self.assertEqual([one.size for one in answered(TWICE, question, 2047)], [2047])

    def test_errors(self):
        for call in (proofs_of_size, answered, tabled):
            for size in (-1, -LARGE, None, True, "1", (LARGE,)):
                with self.assertRaises(BadQuestion) as caught:
                    call(LOOP, ALL, size)
                self.assertEqual(caught.exception.part, "size")

    def test_too_large(self):
        unknowns = [("?", at) for at in range(6)]
        rules = []
        for at in range(6):
            unlike = [("unlike", (unknowns[at], (at, one)[1])) for one in range(5)]
            rules.append(Rule(("p", unknowns), unlike))
        program = Program(rules + [Rule(("p", ["a"] * 6), [])])
        question = Question(unknowns, [("p", unknowns)])
        large = outcome(answered, program, question, 3)
        self.assertEqual(large[0], "too large")
        for call in (answered, tabled):
            self.assertEqual(outcome(call, program, question, LARGE), large)

    def test_random_questions_that_are_spent(self):
        source = random.Random(967)
        many = 0
        for _ in range(500):
            program, question = random_program(source), random_question(source)
            paper = complete(program, question, 4)
            if paper:
                self.assertEqual(answered(program, question, LARGE), list(paper.answers))
                self.assertEqual(tabled(program, question, LARGE), pairs(paper.answers))
                self.assertEqual(proofs_of_size(program, question, LARGE), [])
                many += len(paper.answers) > 0
        self.assertGreater(many, 60)


class GrowingTest(unittest.TestCase):
    def test_random(self):
        source = random.Random(971)
        many = 0
        for _ in range(400):
            program, question, most = random_program(source), random_question(source), source.randrange(7)
            told = outcome(tabled, program, question, most)
            self.assertEqual(outcome(told_by_sizes, program, question, most), told)
            full = outcome(lambda: told_growing(program, question, Growing(program, question, most, False)))
            self.assertEqual(full, told)
            short = outcome(lambda: told_growing(program, question, Growing(program, question, most, True)))
            self.assertIn(short, (told, None))
            many += len(told)
        self.assertGreater(many, 100)

    def test_sizes_come_in_turn(self):
        for program, question in ((FIBS, Question([X], [("fib", (X,))])), (PATHS, Question([X, Y], [("path", (X, Y))])), (COUNTS, ALL_COUNTS), (JOINED, Question([X, Y, Z], [("joined", (X, Y, Z))]))):
            growing = Growing(program, question, 9, True)
            last = 0
            while growing.next_size() is not None:
                self.assertGreaterEqual(growing.next_size(), last)
                last = growing.next_size()
                growing.step()
            sizes = [size for size, _ in growing.question.found]
            self.assertEqual(sizes, sorted(sizes))

    def test_most_rules(self):
        growing = Growing(TWICE, Question([], [("p", (X,)), ("p", (Y,))]), 9, True)
        self.assertEqual([growing.most_rules(levels) for levels in range(5)], [0, 2, 6, 14, 30])
        growing = Growing(LOOP, Question([], [("q", ())]), 9, True)
        self.assertEqual([growing.most_rules(levels) for levels in (0, 1, 99)], [0, 0, 0])
        growing = Growing(Program(LOOP.rules[1:]), ALL, 9, True)
        self.assertEqual(growing.most_rules(10 ** 9), 0)


class SizesTest(unittest.TestCase):
    """Sizes that stand for others that are as much above them as some periods."""

    def test_all_that_is_told_of_small_sizes_stays(self):
        source = random.Random(977)
        for _ in range(60):
            program, question = random_program(source), random_question(source)
            ways = Ways(program, question)
            exact, folded = Sizes(ways, 600), Sizes(ways, LARGE)
            asked = [relation for relation, _ in ways.question.asked]
            for size in range(600):
                if exact.can_be(asked, size):
                    self.assertTrue(folded.can_be(asked, size))
                elif size < 240:
                    self.assertFalse(folded.can_be(asked, size))

    def test_bounds(self):
        ways = Ways(ODD, ALL)
        sizes = Sizes(ways, LARGE)
        self.assertEqual([size for size in range(700) if sizes.can_be([("p", 1)], size)], list(range(1, 700, 2)))
        self.assertEqual([sizes.can_be([("p", 1)] * 2, size) for size in (LARGE, LARGE + 1)], [True, False])
        self.assertEqual(found_proofs(ways, OfSize(sizes, LARGE)), [])

    def test_spent_behind(self):
        self.assertEqual(spent_behind(JOINED, SPLIT), 4)
        self.assertEqual(spent_behind(COUNTS, Question([], [])), 1)
        self.assertIsNone(spent_behind(LOOP, ALL))


if __name__ == "__main__":
    unittest.main()
