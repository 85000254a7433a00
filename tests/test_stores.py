"""[5]: equations and inequations together."""

import random
import unittest

from proofsizes.errors import BadTerm
from proofsizes.solving import Solved, Unsolved, solve
from proofsizes.stores import NoValues, Valued, judge_values
from proofsizes.terms import names_in
from tests.plain import put_in
from tests.samples import W, X, Y, Z, random_term, wrapped
from tests.spoiling import check_spoilt


class ValuedTest(unittest.TestCase):
    def ground(self, equations, inequations):
        paper = judge_values(equations, inequations)
        self.assertIsInstance(paper, Valued)
        self.assertIs(bool(paper), True)
        self.assertTrue(paper.shows(equations, inequations))
        return paper.ground

    def test_nothing_asked(self):
        self.assertEqual(self.ground([], []), {})
        self.assertEqual(self.ground((), ()), {})

    def test_all_unknowns_have_values(self):
        ground = self.ground([(X, ("f", (Y,)))], [[(Y, "a")], [(Z, W), (Z, "b")]])
        self.assertEqual(set(ground), {"x", "y", "z", "w"})
        self.assertEqual(ground["x"], ("f", (ground["y"],)))
        self.assertNotEqual(ground["y"], "a")
        self.assertFalse(any(names_in([ground[name]]) for name in ground))

    def test_unlike_constants_that_stand_nowhere(self):
        ground = self.ground([], [[(X, Y)], [(X, 0)], [(Y, 7)], [(Z, ("f", (X, 100)))]])
        self.assertEqual(len({ground["x"], ground["y"], ground["z"]}), 3)
        self.assertFalse({0, 7, 100} & {ground["x"], ground["y"], ground["z"]})

    def test_an_inequation_of_several_pairs_fails_only_by_all(self):
        ground = self.ground([(X, "a")], [[(X, "a"), (Y, "b")], [("a", "b"), (X, "a")]])
        self.assertEqual(ground["x"], "a")
        self.assertNotEqual(ground["y"], "b")

    def test_what_shows_takes(self):
        equations, inequations = [(X, ("f", (Y,)))], [[(Y, "a")], [(Y, Z)]]
        right = {"x": ("f", ("b",)), "y": "b", "z": 3}
        self.assertTrue(Valued(right).shows(equations, inequations))
        self.assertTrue(Valued({"z": wrapped(60, 1), "y": "b", "x": ("f", ("b",))}).shows(equations, inequations))
        for name, term in (("x", "b"), ("y", "a"), ("z", "b"), ("z", X), ("w", "a"), ("z", ("g", (Y,)))):
            self.assertFalse(Valued({**right, name: term}).shows(equations, inequations), (name, term))
        self.assertFalse(Valued({"x": ("f", ("b",)), "y": "b"}).shows(equations, inequations))
        self.assertFalse(Valued({}).shows([], [[]]))
        self.assertFalse(Valued({}).shows([], [[(1, 1)]]))

    def test_random(self):
        source = random.Random(8)
        kinds = {}
        for _ in range(1500):
            names = ["x", "y", 0]
            equations = [
                (random_term(source, 2, names), random_term(source, 2, names)) for _ in range(source.randrange(0, 3))
            ]
            inequations = [
                [(random_term(source, 1, names), random_term(source, 1, names)) for _ in range(source.randrange(0, 3))]
                for _ in range(source.randrange(0, 3))
            ]
            paper = judge_values(equations, inequations)
            self.assertTrue(paper.shows(equations, inequations))
            kind = bool(paper) or paper.number is None
            kinds[bool(paper), kind] = kinds.get((bool(paper), kind), 0) + 1
            if paper:
                for one, other in equations:
                    self.assertEqual(put_in(one, paper.ground), put_in(other, paper.ground))
                for pairs in inequations:
                    sides = [(put_in(one, paper.ground), put_in(other, paper.ground)) for one, other in pairs]
                    self.assertTrue(any(one != other for one, other in sides))
        self.assertEqual(len(kinds), 3)
        self.assertGreater(min(kinds.values()), 50)


class NoValuesTest(unittest.TestCase):
    def paper(self, equations, inequations):
        paper = judge_values(equations, inequations)
        self.assertIsInstance(paper, NoValues)
        self.assertIs(bool(paper), False)
        self.assertTrue(paper.shows(equations, inequations))
        return paper

    def test_equations_that_cannot_be_solved(self):
        paper = self.paper([(X, "a"), (X, "b")], [[]])
        self.assertIsNone(paper.number)
        self.assertIsInstance(paper.paper, Unsolved)
        self.assertTrue(paper.paper.shows([(X, "a"), (X, "b")]))

    def test_an_inequation_that_always_fails(self):
        self.assertEqual(self.paper([], [[]]), NoValues(0, None))
        self.assertEqual(self.paper([], [[(X, "a")], [(X, X), ("a", "a")]]), NoValues(1, None))
        self.assertEqual(self.paper([(X, Y)], [[(Z, X)], [(("f", (Y,)), ("f", (X,)))]]), NoValues(1, None))
        self.assertEqual(self.paper([(X, Y), (Y, "a")], [[(X, "a"), (Y, "a")]]), NoValues(0, None))

    def test_what_shows_takes(self):
        equations, inequations = [(X, "a")], [[(X, Y)], [(X, "a")], []]
        self.assertTrue(NoValues(1, None).shows(equations, inequations))
        self.assertTrue(NoValues(2, None).shows(equations, inequations))
        for number in (0, 3, -1, None):
            self.assertFalse(NoValues(number, None).shows(equations, inequations))
        self.assertFalse(NoValues(None, Unsolved((("given", 0),), ())).shows(equations, inequations))
        unsolved = solve([("a", "b")])
        self.assertTrue(NoValues(None, unsolved).shows([("a", "b")], []))
        self.assertFalse(NoValues(0, unsolved).shows([("a", "b")], [[]]))
        self.assertFalse(NoValues(0, None).shows([("a", "b")], [[]]))
        self.assertFalse(NoValues(None, Solved({})).shows([("a", "b")], [[]]))

    def test_equal_to_the_like_alone(self):
        self.assertEqual(NoValues(1, None), NoValues(1, None))
        self.assertNotEqual(NoValues(1, None), NoValues(2, None))
        self.assertNotEqual(NoValues(None, solve([("a", "b")])), NoValues(None, None))
        self.assertNotEqual(Valued({}), Solved({}))
        self.assertNotEqual(Valued({"x": "a"}), {"x": "a"})
        self.assertEqual(Valued({"x": "a", "y": 1}), Valued({"y": 1, "x": "a"}))

    def test_spoilt(self):
        equations, inequations = [(X, ("f", (Y,)))], [[(Y, 1)]]
        self.assertGreater(check_spoilt(self, judge_values(equations, inequations), [equations, inequations]), 150)
        equations, inequations = [(X, Y)], [[(Z, 1)], [(X, Y)]]
        self.assertGreater(check_spoilt(self, judge_values(equations, inequations), [equations, inequations]), 100)
        equations = [(X, "a"), (("f", (X,)), ("f", (1,)))]
        self.assertGreater(check_spoilt(self, judge_values(equations, [[]]), [equations, [[]]]), 100)
        self.assertFalse(NoValues(False, None).shows([], [[]]))
        self.assertFalse(Valued({"x": True}).shows([(X, 1)], []))


class BadTermTest(unittest.TestCase):
    def check(self, equations, inequations, place):
        papers = [Valued({}), NoValues(0, None), NoValues(None, None)]
        for call in [judge_values] + [paper.shows for paper in papers]:
            with self.assertRaises(BadTerm) as caught:
                call(equations, inequations)
            self.assertEqual(caught.exception.place, place)

    def test_equations_first(self):
        self.check(None, [None], None)
        self.check([(X, Y), (X, None)], None, 1)
        self.check([(X, wrapped(20, X))], [[], 3], 0)

    def test_then_inequations(self):
        for thing in (None, 3, "a", {}):
            self.check([], thing, None)
            self.check([(X, Y)], [[(X, Y)], [], thing], 2)
        for pairs in ([None], [(X, Y), (X,)], [[X, Y]], [(X, True)], [(X, wrapped(20, "a"))], (X, Y)):
            self.check([], [[(X, Y)], pairs, None], 1)
        self.assertTrue(judge_values([], [((X, wrapped(19, "a")),)]))

    def test_arguments_are_not_changed(self):
        equations, inequations = [(X, Y)], [[(X, "a")], [(Y, "b"), (Z, "a")]]
        judge_values(equations, inequations).shows(equations, inequations)
        self.assertEqual((equations, inequations), ([(X, Y)], [[(X, "a")], [(Y, "b"), (Z, "a")]]))
        ground = judge_values(equations, inequations).ground
        ground["x"] = None
        self.assertIsNotNone(judge_values(equations, inequations).ground["x"])


if __name__ == "__main__":
    unittest.main()
