"""[13] and [14]: unfolded programs, proofs that are carried over, needless rules."""

import random
import unittest

from proofsizes.covering import judge_covered
from proofsizes.errors import BadQuestion, BadRule
from proofsizes.programs import Program, Question, Rule
from proofsizes.proofs import answer_of, proofs_size
from proofsizes.searching import answered, proofs_of_size
from proofsizes.terms import names_in
from proofsizes.unfolding import Needless, Unfolded, carried, needless, unfolded, without_rule
from tests.plain import put_in
from tests.samples import ALL_COUNTS, COUNTS, JOINED, SPLIT, W, X, Y, Z, random_goal, random_program, random_question
from tests.samples import wrapped
from tests.spoiling import check_spoilt

OWN = ("equal", "unlike")


def alike(rule):
    """A rule with unknowns named as they come first."""
    goals = (rule.head,) + rule.goals
    names = names_in([term for goal in goals for term in goal[1]])
    worth = {name: ("?", at) for at, name in enumerate(names)}
    return [(goal[0], tuple(put_in(term, worth) for term in goal[1])) for goal in goals]


class UnfoldedTest(unittest.TestCase):
    def check(self, program, number, place, numbers, rules):
        paper = unfolded(program, number, place)
        self.assertIsInstance(paper, Unfolded)
        self.assertEqual(paper.numbers, numbers)
        self.assertIsInstance(paper.numbers, tuple)
        self.assertEqual([alike(rule) for rule in paper.program.rules], [alike(rule) for rule in rules])

    def test_a_rule_by_itself(self):
        rules = [
            COUNTS.rules[0],
            Rule(("count", (wrapped(1, 0),)), []),
            Rule(("count", (wrapped(2, X),)), [("count", (X,))]),
        ]
        self.check(COUNTS, 1, 0, (0, 1), rules)

    def test_goals_keep_their_places(self):
        program = Program(
            [
                Rule(("q", (1, X)), [("r", (X,)), ("unlike", (X, 2))]),
                Rule(("p", (X, Y)), [("equal", (X, Z)), ("q", (Z, Y)), ("r", (Y,))]),
                Rule(("q", ("a", "b")), []),
                Rule(("r", (X,)), []),
                Rule(("q", (X,)), []),
            ]
        )
        rules = [
            program.rules[0],
            Rule(("p", (X, Y)), [("equal", (X, 1)), ("r", (Y,)), ("unlike", (Y, 2)), ("r", (Y,))]),
            Rule(("p", (X, "b")), [("equal", (X, "a")), ("r", ("b",))]),
        ] + list(program.rules[2:])
        self.check(program, 1, 1, (0, 2), rules)

    def test_what_both_sides_come_to_is_put_in(self):
        program = Program(
            [Rule(("p", (X, Y)), [("q", (("f", (X,)), Y)), ("r", (X, Y))]), Rule(("q", (X, X)), [("s", (X, Z))])]
        )
        self.check(
            program,
            0,
            0,
            (1,),
            [Rule(("p", (X, ("f", (X,)))), [("s", (("f", (X,)), Z)), ("r", (X, ("f", (X,))))]), program.rules[1]],
        )

    def test_no_head_can_be_made_the_same(self):
        others = [Rule(("q", (X, X)), []), Rule(("q", (1,)), [])]
        program = Program([Rule(("p", (X,)), [("q", (("f", (X,)), X))])] + others)
        self.check(program, 0, 0, (), program.rules[1:])
        self.assertIsNone(carried(program, 0, 0, Question([], [("p", (1,))]), ((0, ((1, ()),)),)))

    def test_too_many_goals_or_rules_or_too_deep(self):
        goals = [("q", (X,))] * 4
        wide = Program([Rule(("p", (X,)), goals), Rule(("q", (X,)), goals), Rule(("q", (X,)), goals[:3])])
        many = Program([Rule(("p", ()), [("q", ())])] * 8 + [Rule(("q", ()), [])] * 8)
        deep = Program([Rule(("p", (X, Y)), [("q", (X, Y))]), Rule(("q", (wrapped(15, X), X)), [])])
        deeper = Program(
            [Rule(("p", (wrapped(10, X),)), [("q", (X,))]), Rule(("q", (wrapped(10, Y),)), [("equal", (Y, 1))])]
        )
        deepest = Program(
            [Rule(("p", (X,)), [("q", (X, Y)), ("r", (wrapped(10, Y),))]), Rule(("q", (Z, wrapped(10, Z))), [])]
        )
        self.assertEqual(len(unfolded(deep, 0, 0).program.rules), 2)
        for program, part in ((wide, "goals"), (many, "rules"), (deeper, "head"), (deepest, "goals")):
            for call in (lambda: unfolded(program, 0, 0), lambda: carried(program, 0, 0, None, None)):
                with self.assertRaises(BadRule) as caught:
                    call()
                self.assertEqual((caught.exception.number, caught.exception.part), (None, part))

    def test_bad_numbers(self):
        program = Program([Rule(("p", (X,)), [("equal", (X, 1)), ("p", (X,)), ("unlike", (X, 2))])])
        for call in (unfolded, lambda *row: carried(*row, None, None)):
            for number in (1, -1, None, True, False, "0", ()):
                with self.assertRaises(BadRule) as caught:
                    call(program, number, 9)
                self.assertEqual((caught.exception.number, caught.exception.part), (number, "number"))
            for place in (0, 2, 3, -1, None, True, "1", (1,)):
                with self.assertRaises(BadRule) as caught:
                    call(program, 0, place)
                self.assertEqual((caught.exception.number, caught.exception.part), (0, "place"))
        self.assertEqual(unfolded(program, 0, 1).numbers, (0,))

    def test_equal_to_the_like_alone(self):
        self.assertEqual(unfolded(COUNTS, 1, 0), unfolded(COUNTS, 1, 0))
        self.assertEqual(Unfolded(COUNTS, [0, 1]), Unfolded(COUNTS, (0, 1)))
        self.assertNotEqual(Unfolded(COUNTS, (0, 1)), Unfolded(COUNTS, (1, 0)))
        self.assertNotEqual(Unfolded(COUNTS, ()), Unfolded(JOINED, ()))
        self.assertNotEqual(Unfolded(COUNTS, ()), COUNTS)


class CarriedTest(unittest.TestCase):
    def test_two_trees_become_one(self):
        leaf = (0, ())
        deep = (1, ((1, ((1, (leaf,)),)),))
        self.assertEqual(carried(COUNTS, 1, 0, ALL_COUNTS, (leaf,)), (leaf,))
        self.assertEqual(carried(COUNTS, 1, 0, ALL_COUNTS, ((1, (leaf,)),)), ((1, ()),))
        self.assertEqual(carried(COUNTS, 1, 0, ALL_COUNTS, ((1, ((1, (leaf,)),)),)), ((2, (leaf,)),))
        self.assertEqual(carried(COUNTS, 1, 0, ALL_COUNTS, (deep,)), ((2, ((1, ()),)),))

    def test_trees_within_stand_in_the_goals_place(self):
        program = Program(
            [
                Rule(("p", (X,)), [("q", (X,)), ("unlike", (X, 5)), ("r", (X,)), ("q", (X,))]),
                Rule(("r", (X,)), [("q", (X,)), ("s", (X,))]),
                Rule(("q", (1,)), []),
                Rule(("s", (X,)), []),
                Rule(("r", (1,)), []),
            ]
        )
        question = Question([X], [("p", (X,))])
        proofs = ((0, ((2, ()), (1, ((2, ()), (3, ()))), (2, ()))),)
        self.assertEqual(carried(program, 0, 2, question, proofs), ((0, ((3, ()), (3, ()), (4, ()), (3, ()))),))
        proofs = ((0, ((2, ()), (4, ()), (2, ()))),)
        self.assertEqual(carried(program, 0, 2, question, proofs), ((1, ((3, ()), (3, ()))),))

    def test_without_an_answer(self):
        proofs = ((1, ((1, ((1, ((0, ()),)),)),)),)
        self.assertIsNone(answer_of(JOINED, SPLIT, proofs))
        self.assertIsNone(carried(JOINED, 1, 0, SPLIT, proofs))

    def test_bad_proofs(self):
        for proofs in (None, (), ((1, ()),), [(0, ())], ((5, ()),)):
            with self.assertRaises(BadQuestion) as caught:
                carried(COUNTS, 1, 0, ALL_COUNTS, proofs)
            self.assertEqual(caught.exception.part, "proofs")

    def test_long_proofs(self):
        tree = (0, ())
        for _ in range(100):
            tree = (1, (tree,))
        self.assertEqual(proofs_size(carried(COUNTS, 1, 0, ALL_COUNTS, (tree,))), 51)

    def test_same_answers_and_all_proofs(self):
        source = random.Random(47)
        counts = [0, 0]
        for _ in range(150):
            program, question = random_program(source), random_question(source)
            number = source.randrange(len(program.rules))
            for place, goal in enumerate(program.rules[number].goals):
                if goal[0] in OWN:
                    continue
                turned = unfolded(program, number, place).program
                became = []
                for size in range(5):
                    for proofs in proofs_of_size(program, question, size):
                        became.append(carried(program, number, place, question, proofs))
                        answer = answer_of(program, question, proofs)
                        self.assertEqual(answer_of(turned, question, became[-1]), answer)
                        counts[0] += 1
                for size in range(3):
                    for proofs in proofs_of_size(turned, question, size):
                        self.assertEqual(became.count(proofs), 1)
                        counts[1] += 1
        self.assertGreater(min(counts), 50)


class NeedlessTest(unittest.TestCase):
    def check(self, rules, number, by, terms):
        program = Program(rules)
        paper = needless(program, number)
        self.assertIsInstance(paper, Needless)
        self.assertEqual((paper.by, paper.terms), (by, terms))
        self.assertTrue(paper.shows(program, number))
        self.assertEqual(without_rule(program, number), Program(rules[:number] + rules[number + 1 :]))

    def needed(self, rules, number):
        self.assertIsNone(needless(Program(rules), number))
        self.assertIsNone(without_rule(Program(rules), number))

    def test_terms_for_unknowns(self):
        rules = [
            Rule(("p", (X, Y)), [("q", (Y, Z)), ("q", (Z, X))]),
            Rule(("p", (1, ("f", (X,)))), [("q", (W, 1)), ("r", ()), ("q", (("f", (X,)), W))]),
        ]
        self.check(rules, 1, 0, {"x": 1, "y": ("f", (X,)), "z": W})
        self.needed(rules, 0)

    def test_two_goals_may_be_one(self):
        rules = [Rule(("p", (X,)), [("q", (X, Y)), ("q", (Z, X))]), Rule(("p", (X,)), [("q", (X, X))])]
        self.check(rules, 1, 0, {"x": X, "y": X, "z": X})

    def test_the_first_other_rule(self):
        rules = [Rule(("p", (1,)), []), Rule(("p", (X,)), []), Rule(("p", (Y,)), []), Rule(("p", (1,)), [])]
        self.check(rules, 0, 1, {"x": 1})
        self.check(rules, 1, 2, {"y": X})
        self.check(rules, 3, 0, {})
        self.check(rules[::-1], 0, 1, {"y": 1})

    def test_sides_turned_round(self):
        for name in OWN:
            rules = [Rule(("p", (X, Y)), [(name, (X, Y))]), Rule(("p", (Z, 1)), [(name, (1, Z))])]
            self.check(rules, 1, 0, {"x": Z, "y": 1})
            rules = [Rule(("p", ()), [(name, (X, 1)), (name, (1, Y))]), Rule(("p", ()), [(name, (1, Z))])]
            self.check(rules, 1, 0, {"x": Z, "y": Z})
        self.needed([Rule(("p", (X, Y)), [("equal", (X, Y))]), Rule(("p", (X, Y)), [("unlike", (X, Y))])], 1)
        self.needed([Rule(("p", (X, Y)), [("q", (X, Y))]), Rule(("p", (X, Y)), [("q", (Y, X))])], 1)

    def test_needed_rules(self):
        self.needed([Rule(("p", (X,)), [])], 0)
        self.needed(list(COUNTS.rules), 0)
        self.needed([Rule(("p", (X,)), []), Rule(("p", (X, X)), []), Rule(("q", (X,)), [])], 1)
        self.needed([Rule(("p", (X, X)), []), Rule(("p", (X, Y)), [])], 1)
        self.needed([Rule(("p", (X,)), [("q", (X, 1))]), Rule(("p", (X,)), [("q", (X, Y))])], 1)

    def test_choices_that_are_taken_back(self):
        goals = [("q", (X, Y)), ("q", (Y, Z)), ("r", (Z, 5))]
        steps = [("q", (0, 1)), ("q", (1, 2)), ("q", (0, 3)), ("q", (3, 4)), ("r", (4, 5)), ("q", (0, 2))]
        self.check([Rule(("p", ()), goals), Rule(("p", ()), steps)], 1, 0, {"x": 0, "y": 3, "z": 4})
        self.needed([Rule(("p", ()), goals + [("q", (Z, X))]), Rule(("p", ()), steps)], 1)

    def test_every_choice_is_tried(self):
        goals = [("q", (X, Y)), ("s", (Y, X))]
        for right in (1, 2, 3):
            steps = [("q", (0, 1)), ("q", (0, 2)), ("q", (0, 3)), ("s", (8, 8)), ("s", (right, 0)), ("s", (9, 9))]
            self.check([Rule(("p", ()), goals), Rule(("p", ()), steps)], 1, 0, {"x": 0, "y": right})

    def test_what_shows_takes(self):
        rules = [Rule(("p", (X,)), [("unlike", (X, Y))]), Rule(("p", (1,)), [("unlike", (2, 1))])]
        rules += [Rule(("p", (1,)), []), Rule(("p", (Z,)), [("unlike", (Z, W))])]
        program = Program(rules)
        self.assertEqual(needless(program, 1), Needless(0, {"x": 1, "y": 2}))
        self.assertTrue(Needless(0, {"y": 2, "x": 1}).shows(program, 1))
        self.assertTrue(Needless(2, {}).shows(program, 1))
        self.assertTrue(Needless(3, {"w": 2, "z": 1}).shows(program, 1))
        for by, terms in ((0, {"x": 1}), (0, {"x": 1, "y": 3}), (0, {"x": 2, "y": 1}), (0, {"x": 1, "y": 2, "z": 1}),
                          (1, {}), (3, {"x": 1, "y": 2}), (4, {}), (-1, {"w": 2, "z": 1}), (0, {})):
            self.assertFalse(Needless(by, terms).shows(program, 1), (by, terms))
        self.assertFalse(Needless(1, {}).shows(program, 1))

    def test_no_instance_is_lost(self):
        source = random.Random(53)
        found = lost = 0
        for _ in range(300):
            program = random_program(source)
            number = source.randrange(len(program.rules))
            rule = program.rules[number]
            worth = {"x": source.choice(["a", X]), "y": Y, "z": ("f", (Y,))}
            goals = [(goal[0], tuple(put_in(term, worth) for term in goal[1])) for goal in rule.goals]
            goals = [(goal[0], goal[1][::-1]) if goal[0] in OWN else goal for goal in goals]
            head = (rule.head[0], tuple(put_in(term, worth) for term in rule.head[1]))
            more = Program(list(program.rules) + [Rule(head, goals[::-1] + [random_goal(source, ["x"])])])
            paper = needless(more, len(program.rules))
            self.assertTrue(paper.shows(more, len(program.rules)))
            self.assertLessEqual(paper.by, number)
            self.assertEqual(without_rule(more, len(program.rules)), program)
            found += paper.by == number
            if needless(program, number) is not None:
                less = without_rule(program, number)
                for question in (Question([X, Y], [("q", (X, Y))]), Question([X], [("p", (X,))])):
                    others = [one.answer for one in answered(less, question, 5)]
                    for one in answered(program, question, 3):
                        self.assertTrue(judge_covered(one.answer, others))
                        lost += 1
        self.assertGreater(found, 200)
        self.assertGreater(lost, 20)

    def test_equal_to_the_like_alone(self):
        self.assertEqual(Needless(0, {"x": 1}), Needless(0, {"x": 1}))
        self.assertNotEqual(Needless(0, {"x": 1}), Needless(1, {"x": 1}))
        self.assertNotEqual(Needless(0, {"x": 1}), Needless(0, {"x": 2}))
        self.assertNotEqual(Needless(0, {}), None)

    def test_bad_numbers(self):
        for number in (2, -1, None, True, "0", ()):
            for call in (needless, without_rule, Needless(0, {}).shows, Needless(None, None).shows):
                with self.assertRaises(BadRule) as caught:
                    call(COUNTS, number)
                self.assertEqual((caught.exception.number, caught.exception.part), (number, "number"))

    def test_the_dict_is_new_and_a_copy(self):
        terms = {"x": 1}
        paper = Needless(0, terms)
        terms["y"] = 2
        self.assertEqual(paper.terms, {"x": 1})

    def test_spoilt(self):
        program = Program([Rule(("p", (X, Y)), [("q", (X, Z))]), Rule(("p", (1, W)), [("q", (1, ("f", (W,))))])])
        self.assertGreater(check_spoilt(self, needless(program, 1), [program, 1]), 200)
        self.assertFalse(Needless(0, {"x": True, "y": W, "z": ("f", (W,))}).shows(program, 1))
        self.assertFalse(Needless(False, {"x": 1, "y": W, "z": ("f", (W,))}).shows(program, 1))


if __name__ == "__main__":
    unittest.main()
