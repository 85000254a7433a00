"""[1] to [4]: errors, terms, solved equations, and papers of those that can't be solved."""

import random
import unittest

from proofsizes import errors
from proofsizes.errors import BadAnswer, BadQuestion, BadRule, BadTerm, RelationError, TooLarge
from proofsizes.solving import Solved, Unsolved, solve
from proofsizes.terms import name_key, names_in
from tests.plain import put_in
from tests.samples import W, X, Y, Z, random_term, wrapped
from tests.spoiling import check_spoilt


class ErrorsTest(unittest.TestCase):
    def test_all_are_relation_errors_with_their_arguments(self):
        self.assertTrue(issubclass(RelationError, ValueError))
        for kind in (BadTerm, BadRule, BadQuestion, BadAnswer, TooLarge):
            self.assertIs(kind.__mro__[1], RelationError)
            self.assertEqual(kind.__module__, errors.__name__)
        self.assertEqual(BadTerm(3).place, 3)
        self.assertIsNone(BadTerm(None).place)
        self.assertEqual((BadRule(2, "rule").number, BadRule(2, "rule").part), (2, "rule"))
        self.assertEqual(BadQuestion("terms").part, "terms")
        self.assertEqual(BadAnswer("empty").part, "empty")
        self.assertEqual(TooLarge(5000).number, 5000)


class SolvedTest(unittest.TestCase):
    def bound(self, equations):
        paper = solve(equations)
        self.assertIsInstance(paper, Solved)
        self.assertIs(bool(paper), True)
        self.assertTrue(paper.shows(equations))
        return paper.bound

    def test_no_equations(self):
        self.assertEqual(self.bound([]), {})
        self.assertEqual(self.bound(()), {})

    def test_constants_and_parts(self):
        self.assertEqual(self.bound([(X, "a"), ("a", "a"), (1, 1)]), {"x": "a"})
        self.assertEqual(self.bound([(("f", (X, 1)), ("f", ("a", Y)))]), {"x": "a", "y": 1})
        self.assertEqual(self.bound([(X, ("f", (Y,))), (Y, ("g", (Z, Z))), (Z, 0)])["x"], ("f", (("g", (0, 0)),)))

    def test_the_least_unknown_stands_for_all(self):
        self.assertEqual(self.bound([(Z, Y), (Y, X)]), {"y": X, "z": X})
        self.assertEqual(self.bound([(X, ("?", 10)), (("?", 2), ("?", 10))]), {10: ("?", 2), "x": ("?", 2)})
        equations = [(("f", (Z,)), ("f", (Y,))), (X, ("g", (Z, W)))]
        self.assertEqual(self.bound(equations), {"x": ("g", (Y, W)), "z": Y})

    def test_names_ascend_integers_first(self):
        equations = [(("?", name), "a") for name in ("b", "a10", "a2", 10, 9, 0, "a")]
        self.assertEqual(list(self.bound(equations)), [0, 9, 10, "a", "a10", "a2", "b"])

    def test_unknowns_by_themselves(self):
        self.assertEqual(self.bound([(X, X)]), {})
        self.assertEqual(self.bound([(("f", (X, Y)), ("f", (X, Y)))]), {})

    def test_an_integer_is_no_name_of_a_constant(self):
        self.assertFalse(solve([(1, "a")]))
        self.assertEqual(self.bound([(("?", 1), 1)]), {1: 1})

    def test_shows_asks_the_most_general_least_form(self):
        equations = [(X, Y), (Z, ("f", (X,)))]
        right = {"y": X, "z": ("f", (X,))}
        self.assertTrue(Solved(right).shows(equations))
        wrong = [
            {"x": Y, "z": ("f", (Y,))},
            {"z": ("f", (X,)), "y": X},
            {"y": X, "z": ("f", (Y,))},
            {"x": "a", "y": "a", "z": ("f", ("a",))},
            {"w": "a", "y": X, "z": ("f", (X,))},
            {"y": X},
            {},
        ]
        for bound in wrong:
            self.assertFalse(Solved(bound).shows(equations), bound)
        self.assertFalse(Solved({}).shows([("a", "b")]))
        self.assertFalse(Solved({"x": "a"}).shows([(X, ("f", (X,)))]))

    def test_the_dict_is_new_and_a_copy(self):
        bound = {"x": "a"}
        paper = Solved(bound)
        bound["y"] = "b"
        self.assertEqual(paper.bound, {"x": "a"})
        equations = [(X, "a")]
        first, second = solve(equations), solve(equations)
        self.assertIsNot(first.bound, second.bound)
        self.assertEqual(equations, [(X, "a")])

    def test_terms_of_the_work_may_be_deep(self):
        equations = [(("?", at), wrapped(19, ("?", at + 1))) for at in range(11)]
        bound = self.bound(equations)
        self.assertEqual(bound[0], wrapped(209, ("?", 11)))
        self.assertEqual(bound[10], wrapped(19, ("?", 11)))
        turned = [(("?", at + 1), wrapped(1, ("?", at))) for at in range(200)]
        self.assertEqual(self.bound(turned)[200], wrapped(200, ("?", 0)))

    def test_shared_parts_are_not_gone_through_again_and_again(self):
        equations = []
        for first in (0, 1000):
            equations.extend((("?", first + at + 1), ("f", (("?", first + at),) * 2)) for at in range(150))
        equations.append((("?", 150), ("?", 1150)))
        self.assertTrue(solve(equations))
        self.assertFalse(solve(equations + [(("?", 0), ("?", 1100))]))
        self.assertFalse(solve(equations + [(("?", 0), "a"), (("?", 1000), "b")]))

    def test_random_equations(self):
        source = random.Random(4)
        kinds = {True: 0, False: 0}
        for _ in range(1500):
            names = ["x", "y", 0, 1, "z", "w"]
            many = source.randrange(0, 5)
            equations = [(random_term(source, 2, names), random_term(source, 2, names)) for _ in range(many)]
            paper = solve(equations)
            kinds[bool(paper)] += 1
            self.assertTrue(paper.shows(equations))
            if paper:
                for one, other in equations:
                    self.assertEqual(put_in(one, paper.bound), put_in(other, paper.bound))
                self.assertEqual(list(paper.bound), sorted(paper.bound, key=name_key))
                for name in paper.bound:
                    self.assertFalse(set(names_in([paper.bound[name]])) & set(paper.bound))
        self.assertGreater(min(kinds.values()), 200)


class UnsolvedTest(unittest.TestCase):
    def paper(self, equations):
        paper = solve(equations)
        self.assertIsInstance(paper, Unsolved)
        self.assertIs(bool(paper), False)
        self.assertTrue(paper.shows(equations), paper.__dict__)
        self.assertIsInstance(paper.steps, tuple)
        self.assertIsInstance(paper.ring, tuple)
        return paper

    def test_unlike_heads(self):
        unlike = ["a", "b", 1, 2, ("f", (X,)), ("f", (X, X)), ("g", (X,))]
        for one in unlike:
            for other in unlike:
                if one != other:
                    self.assertEqual(self.paper([(one, other)]).ring, ())

    def test_all_four_kinds_of_steps(self):
        equations = [(("f", (X,)), Y), (("f", ("a",)), Y), (X, "b")]
        paper = self.paper(equations)
        self.assertEqual({step[0] for step in paper.steps}, {"given", "turned", "joined", "part"})
        self.assertEqual(paper.ring, ())
        for n in range(3):
            self.assertTrue(solve(equations[:n] + equations[n + 1 :]))

    def test_rings_of_unknowns(self):
        self.assertEqual(len(self.paper([(X, ("f", (X,)))]).ring), 1)
        self.assertEqual(len(self.paper([(("f", (X,)), X)]).ring), 1)
        self.assertEqual(len(self.paper([(X, ("f", (Y,))), (Y, ("g", (Z, "a"))), (Z, ("f", (X,)))]).ring), 3)
        self.paper([(X, Y), (("f", (("g", (X,)),)), ("f", (Y,)))])
        self.paper([(("f", (X, Y)), ("f", (("g", (Y,)), ("g", (X,)))))])
        self.paper([(X, Y), (Y, Z), (Z, wrapped(18, X))])

    def test_what_shows_takes(self):
        equations = [(X, "a"), (("f", (X, "b")), ("f", ("b", Y)))]
        steps = (("given", 0), ("given", 1), ("part", 1, 0), ("turned", 0), ("joined", 3, 2))
        self.assertTrue(Unsolved(steps, ()).shows(equations))
        self.assertTrue(Unsolved(list(steps), []).shows(equations))
        self.assertEqual(Unsolved(list(steps), []), Unsolved(steps, ()))
        for wrong in (
            steps[:4],
            steps[:-1] + (("joined", 2, 3),),
            steps[:-1] + (("joined", 0, 2),),
            (("given", 2),),
            (("given", -1),),
            (("turned", 0),),
            (("given", 1), ("part", 0, 2)),
            (("given", 1), ("part", 0, -1)),
            (("given", 0), ("part", 0, 0)),
            (),
        ):
            self.assertFalse(Unsolved(wrong, ()).shows(equations), wrong)
        self.assertFalse(Unsolved(steps, (0,)).shows(equations))

    def test_compounds_that_are_alike_are_no_clash(self):
        equations = [(("f", ("a", X)), ("f", ("b", X))), (("f", ("a", "b")), ("g", ("a", "c"))), ("a", "a"), (1, X)]
        for number in (0, 2, 3):
            self.assertFalse(Unsolved((("given", number),), ()).shows(equations))
        self.assertTrue(Unsolved((("given", 0), ("part", 0, 0)), ()).shows(equations))
        self.assertTrue(Unsolved((("given", 1),), ()).shows(equations))
        # Parts are those of compounds that are alike alone.
        self.assertFalse(Unsolved((("given", 1), ("part", 0, 1)), ()).shows(equations))
        self.assertFalse(Unsolved((("given", 3), ("part", 0, 0)), ()).shows(equations))
        self.assertFalse(Unsolved((("given", 0),), ()).shows([(X, "a")]))
        self.assertFalse(Unsolved((("given", 0),), ()).shows([("a", X)]))

    def test_rings_that_shows_takes(self):
        ring = [(X, ("f", (Y,))), (Y, Z), (Z, ("g", (X,)))]
        given = tuple(("given", n) for n in range(3))
        for numbers in ((0, 1, 2), (1, 2, 0), (2, 0, 1)):
            self.assertTrue(Unsolved(given, numbers).shows(ring))
        for numbers in ((0, 2, 1), (0,), (0, 1), (0, 1, 3), (0, 1, -1), (0, 1, 2, 2)):
            self.assertFalse(Unsolved(given, numbers).shows(ring))
        unknowns = [(X, Y), (Y, X)]
        self.assertFalse(Unsolved(given[:2], (0, 1)).shows(unknowns))
        self.assertFalse(Unsolved(given[:1], (0,)).shows([(X, X)]))
        self.assertFalse(Unsolved(given[:1], (0,)).shows([(("f", (X,)), X)]))

    def test_a_solved_and_an_unsolved_differ(self):
        self.assertNotEqual(Solved({}), Unsolved((), ()))
        self.assertEqual(Solved({"x": "a"}), Solved({"x": "a"}))
        self.assertNotEqual(Solved({"x": "a"}), Solved({"x": "b"}))
        self.assertNotEqual(Solved({"x": "a"}), {"x": "a"})
        self.assertNotEqual(Unsolved((("given", 0),), ()), Unsolved((("given", 0),), (0,)))
        self.assertNotEqual(Unsolved((), ()), None)

    def test_spoilt(self):
        equations = [(X, ("f", (Y,))), (Z, 1), (("?", 0), Z)]
        self.assertGreater(check_spoilt(self, solve(equations), [equations]), 200)
        equations = [(("f", (X,)), Y), (("f", ("a",)), Y), (X, "b")]
        self.assertGreater(check_spoilt(self, solve(equations), [equations]), 200)
        equations = [(X, ("f", (Y,))), (Y, ("g", (X,)))]
        self.assertGreater(check_spoilt(self, solve(equations), [equations]), 200)

    def test_true_is_no_number(self):
        self.assertFalse(Solved({True: "a"}).shows([(("?", 1), "a")]))
        self.assertFalse(Solved({"x": True}).shows([(X, 1)]))
        self.assertFalse(Unsolved((("given", False),), ()).shows([("a", "b")]))
        self.assertFalse(Unsolved((("given", 0),), (False,)).shows([(X, ("f", (X,)))]))


class BadTermTest(unittest.TestCase):
    def place(self, call):
        with self.assertRaises(BadTerm) as caught:
            call()
        return caught.exception.place

    def check(self, equations, place):
        self.assertEqual(self.place(lambda: solve(equations)), place)
        self.assertEqual(self.place(lambda: Solved({}).shows(equations)), place)
        self.assertEqual(self.place(lambda: Unsolved((), ()).shows(equations)), place)

    def test_no_row(self):
        for thing in (None, 3, "ab", {}, Solved({})):
            self.check(thing, None)

    def test_no_pair(self):
        for thing in (None, 1, "a", (), (X,), (X, Y, Z), [X, Y], (X, None), (None, X), Solved({})):
            self.check([thing], 0)
            self.check([(X, Y), ("a", 1), thing, thing], 2)
            self.check(((X, Y), thing), 1)

    def test_no_terms(self):
        wrong = [True, False, None, "", "A", "aB", "1a", "a_", "a b", "abcdefghi", ("?", "abcdefghi"), ("?", -1)]
        wrong += [("?", True), ("?", "A"), ("?",), ("?", "x", "y"), ("f", ()), ("f", [X]), ("f",), ("f", X)]
        wrong += [("?", ("a",)), ("F", (X,)), (1, (X,)), ("f", (X, None)), ("f", (X,), 1), (), [X], 1.5, ["f", (X,)]]
        wrong += ["caf\u00e9", "\u0661", ("abcdefghi", (X,)), (("f", (X,)), (X,)), ("?", 1.0), ("?", None)]
        for term in wrong:
            self.check([(X, X), (X, term)], 1)
            self.check([(term, X)], 0)
            self.check([(("g", ("a", term)), X)], 0)

    def test_right_terms(self):
        right = [0, -5, 10 ** 12, "a", "abcdefgh", "a1234567", ("?", 0), ("?", 10 ** 9), ("?", "abcdefgh")]
        right += [("equal", ("unlike",)), "if", ("f", ("a",) * 40)]
        for term in right:
            self.assertTrue(solve([(term, term)]))

    def test_twenty_within_one_another(self):
        for inmost in ("a", 0, X):
            self.assertTrue(solve([(Y, wrapped(19, inmost))]))
            self.check([(Y, wrapped(20, inmost))], 0)
            self.check([(X, X), (wrapped(20, inmost), Y)], 1)


if __name__ == "__main__":
    unittest.main()
