"""[8] and [9]: rules, programs, questions, and proofs."""

import random
import unittest

from proofsizes.answers import Answer
from proofsizes.errors import BadQuestion, BadRule
from proofsizes.programs import Program, Question, Rule
from proofsizes.proofs import answer_of, proofs_levels, proofs_size
from tests.samples import ALL_COUNTS, COUNTS, JOINED, SPLIT, W, X, Y, Z, parted, random_program, random_question
from tests.samples import relation, slow_answer, slow_forests, wrapped

FACT = ("p", (X,))
WRONG_GOALS = [None, 3, "p", (), ("p",), ("p", X), ("p", (X,), 1), ("p", (True,)), ("p", (None,)), ["p", (X,)]]
WRONG_GOALS += [("P", (X,)), ("?", (X,)), (1, (X,)), ("ninesigns", (X,)), ("p", (wrapped(20, X),)), ("p", "ab")]
WRONG_GOALS += [("p", (X,) * 7), ("equal", (X,)), ("equal", (X, Y, Z)), ("unlike", (X, None)), ("equal", ())]
WRONG_GOALS += [("unlike", (wrapped(20, X), X)), (None, (X,)), ("p", {}), Rule(FACT, [])]


class ProgramsTest(unittest.TestCase):
    def test_attributes_are_tuples(self):
        rule = Rule(("p", [X, "a"]), [("q", [Y]), ("equal", (X, Y)), ("r", ())])
        self.assertEqual(rule.head, ("p", (X, "a")))
        self.assertEqual(rule.goals, (("q", (Y,)), ("equal", (X, Y)), ("r", ())))
        self.assertEqual(Program([rule]).rules, (rule,))
        self.assertEqual(Program(()).rules, ())
        question = Question([X, 1], [("p", [X])])
        self.assertEqual((question.terms, question.goals), ((X, 1), (("p", (X,)),)))
        self.assertEqual(Question((), ()).goals, ())

    def test_arguments_are_not_kept(self):
        terms, goals = [X], [FACT]
        rule, question = Rule(("p", terms), goals), Question(terms, goals)
        rules = [rule]
        program = Program(rules)
        terms.append(Y)
        goals.append(FACT)
        rules.append(rule)
        self.assertEqual((rule.head, rule.goals, len(program.rules)), (FACT, (FACT,), 1))
        self.assertEqual((question.terms, question.goals), ((X,), (FACT,)))

    def test_equal_to_the_like_alone(self):
        self.assertEqual(Rule(FACT, []), Rule(("p", [X]), ()))
        self.assertNotEqual(Rule(FACT, []), Rule(("p", (Y,)), []))
        self.assertNotEqual(Rule(FACT, []), Rule(FACT, [FACT]))
        self.assertEqual(Program([Rule(FACT, [])]), Program((Rule(FACT, []),)))
        self.assertNotEqual(Program([]), Program([Rule(FACT, [])]))
        self.assertEqual(Question([X], [FACT]), Question((X,), (FACT,)))
        self.assertNotEqual(Question([X], [FACT]), Question([Y], [FACT]))
        self.assertNotEqual(Question([X], [FACT]), Question([X], []))
        self.assertNotEqual(Question([], []), Program([]))
        self.assertNotEqual(Program([]), ())

    def rule_part(self, head, goals):
        with self.assertRaises(BadRule) as caught:
            Rule(head, goals)
        self.assertIsNone(caught.exception.number)
        return caught.exception.part

    def test_bad_rules(self):
        for goal in WRONG_GOALS + [("equal", (X, Y)), ("unlike", (X, Y))]:
            self.assertEqual(self.rule_part(goal, None), "head")
        for goal in WRONG_GOALS:
            self.assertEqual(self.rule_part(FACT, [FACT, goal]), "goals")
        for goals in (None, 3, "ab", {}, FACT, [FACT] * 7):
            self.assertEqual(self.rule_part(FACT, goals), "goals")
        Rule(("abcdefgh", (X,) * 6), [("equal", (X, Y))] * 6)
        Rule(("p", ()), [("p", (wrapped(19, X),))])

    def test_bad_programs(self):
        rule = Rule(FACT, [])
        for rules in (None, 3, rule, {}, [rule] * 17, [None] * 17):
            with self.assertRaises(BadRule) as caught:
                Program(rules)
            self.assertEqual((caught.exception.number, caught.exception.part), (None, "rules"))
        for wrong in (None, FACT, Question([], [])):
            with self.assertRaises(BadRule) as caught:
                Program([rule, wrong, None])
            self.assertEqual((caught.exception.number, caught.exception.part), (1, "rule"))
        self.assertEqual(len(Program([rule] * 16).rules), 16)

    def test_bad_questions(self):
        for terms in (None, 3, "ab", [None], [wrapped(20, X)], [X] * 7, [True]):
            with self.assertRaises(BadQuestion) as caught:
                Question(terms, None)
            self.assertEqual(caught.exception.part, "terms")
        for goals in [[goal] for goal in WRONG_GOALS] + [None, 3, {}, [FACT] * 7]:
            with self.assertRaises(BadQuestion) as caught:
                Question([X] * 6, goals)
            self.assertEqual(caught.exception.part, "goals")
        Question([wrapped(19, X)] * 6, [FACT] * 6)


class ProofsTest(unittest.TestCase):
    def test_size_and_levels(self):
        self.assertEqual((proofs_size(()), proofs_levels(())), (0, 0))
        self.assertEqual((proofs_size(((3, ()),)), proofs_levels(((3, ()),))), (1, 1))
        proofs = ((0, ((1, ()), (2, ((1, ()),)))), (1, ()))
        self.assertEqual((proofs_size(proofs), proofs_levels(proofs)), (5, 3))
        tree = (0, ())
        for _ in range(400):
            tree = (1, (tree,))
        self.assertEqual((proofs_size((tree,)), proofs_levels((tree,))), (401, 401))

    def test_answers_of_the_example(self):
        half = ("row", ("a", "none"))
        whole = ("row", ("a", half))
        self.assertEqual(answer_of(JOINED, SPLIT, ((0, ()),)), Answer(["none", whole], []))
        self.assertEqual(answer_of(JOINED, SPLIT, ((1, ((0, ()),)),)), Answer([half, half], []))
        self.assertIsNone(answer_of(JOINED, SPLIT, ((1, ((1, ((1, ((0, ()),)),)),)),)))

    def test_unknowns_of_rules_are_others_each_time(self):
        program = Program([Rule(("p", (X, Y)), [("q", (X,)), ("q", (Y,))]), Rule(("q", (("f", (X,)),)), [])])
        answer = answer_of(program, Question([X, Y], [("p", (X, Y))]), ((0, ((1, ()), (1, ()))),))
        self.assertEqual(answer, Answer([("f", (X,)), ("f", (Y,))], []))

    def test_equal_and_unlike_goals(self):
        goals = [("unlike", (X, Y)), ("equal", (X, ("f", (Z,)))), ("unlike", (Z, "a"))]
        program = Program([Rule(("p", (X, Y)), goals)])
        question = Question([X, Y], [("p", (X, Y)), ("unlike", (Y, 3))])
        answer = answer_of(program, question, ((0, ()),))
        self.assertEqual(answer, Answer([("f", (X,)), Y], [[(X, "a")], [(Y, 3)], [(("f", (X,)), Y)]]))
        self.assertIsNone(answer_of(program, Question([], [("p", (X, X))]), ((0, ()),)))
        self.assertIsNone(answer_of(program, Question([], [("p", (("f", ("a",)), 1))]), ((0, ()),)))
        self.assertIsNone(answer_of(program, Question([], [("equal", (1, 2))]), ()))
        self.assertEqual(answer_of(program, Question([Y], [("unlike", (Y, X))]), ()), Answer([X], []))
        self.assertEqual(answer_of(program, Question([W, 1, W], []), ()), Answer([X, 1, X], []))

    def test_the_same_as_by_all_that_is_asked_at_once(self):
        source = random.Random(31)
        some = 0
        for _ in range(150):
            program, question = random_program(source), random_question(source)
            for size in range(4):
                wanted = [relation(goal) for goal in parted(question.goals)[0]]
                for proofs in slow_forests(program, wanted, size, {})[:40]:
                    answer = answer_of(program, question, proofs)
                    self.assertEqual(answer, slow_answer(program, question, proofs))
                    some += answer is not None
        self.assertGreater(some, 100)

    def test_bad_proofs(self):
        wrong = [None, 3, "a", (), [(0, ())], ((0, ()), (0, ())), (None,), ((0,),), ((0, (), ()),), ([0, ()],)]
        wrong += [((2, ()),), ((-1, ()),), ((True, ((0, ()),)),), ((False, ()),), ((None, ()),), ((0, ((0, ()),)),)]
        wrong += [((1, ()),), ((1, ((0, ()), (0, ()))),), ((1, [(0, ())]),), ((1, ((5, ()),)),), ((0, None),)]
        for proofs in wrong:
            with self.assertRaises(BadQuestion) as caught:
                answer_of(COUNTS, ALL_COUNTS, proofs)
            self.assertEqual(caught.exception.part, "proofs")
        # A rule of another relation, by its name or by its number of terms.
        program = Program([Rule(("p", (X,)), []), Rule(("q", (X,)), []), Rule(("p", (X, X)), [])])
        for number in (1, 2):
            with self.assertRaises(BadQuestion):
                answer_of(program, Question([], [("p", (1,))]), ((number, ()),))
        with self.assertRaises(BadQuestion):
            answer_of(program, Question([], [("none", ())]), ((0, ()),))


if __name__ == "__main__":
    unittest.main()
