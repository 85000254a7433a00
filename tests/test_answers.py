"""[6] and [7]: answers in their normal form, and what covers them."""

import random
import unittest

from proofsizes.answers import Answer, is_instance
from proofsizes.covering import Covered, Outside, judge_covered
from proofsizes.errors import BadAnswer, TooLarge
from proofsizes.terms import names_in
from tests.plain import put_in
from tests.samples import W, X, Y, Z, random_term, wrapped
from tests.spoiling import check_spoilt

N0, N1, N2 = ("?", 0), ("?", 1), ("?", 2)


def random_answer(source, most):
    """Terms and inequations, and the Answer to them."""
    while True:
        names = ["x", "y", 0]
        terms = [random_term(source, 2, names) for _ in range(2)]
        inequations = []
        for _ in range(source.randrange(0, most + 1)):
            pairs = [(random_term(source, 1, names + ["h"]), random_term(source, 1, names + ["h"]))]
            inequations.append(pairs * source.choice([1, 1, 2]))
            inequations[-1][-1] = (random_term(source, 1, names), random_term(source, 1, names))
        try:
            return terms, inequations, Answer(terms, inequations)
        except BadAnswer as bad:
            assert bad.part == "empty"


class NormalFormTest(unittest.TestCase):
    def check(self, terms, inequations, normal_terms, normal_inequations):
        answer = Answer(terms, inequations)
        self.assertEqual(answer.terms, normal_terms)
        self.assertEqual(answer.inequations, normal_inequations)
        self.assertEqual(answer, Answer(answer.terms, answer.inequations))

    def test_unknowns_are_named_as_they_come_first(self):
        self.check([Y, ("f", (X, Y)), ("?", 7)], [], (N0, ("f", (N1, N0)), N2), ())
        self.check((), (), (), ())
        self.check(["a", 1], [], ("a", 1), ())
        self.check([N1, N0], [[(N0, "a")]], (N0, N1), (((N1, "a"),),))

    def test_inequations_are_solved(self):
        self.check([X, Y], [[("a", Y), (X, Y)]], (N0, N1), (((N0, "a"), (N1, "a")),))
        self.check([X, Y], [[(Y, X)]], (N0, N1), (((N1, N0),),))
        self.check([("f", (X,))], [[(("g", (X, "b")), ("g", ("a", "b")))]], (("f", (N0,)),), (((N0, "a"),),))

    def test_those_that_cannot_fail_go(self):
        self.check([X], [[("a", "b")], [(X, ("f", (X,)))], [(X, "a"), (X, "b")]], (N0,), ())

    def test_those_with_hidden_unknowns_go(self):
        self.check([X], [[(X, Y)], [(X, "a"), (Z, "b")], [(Y, Z)], [(X, ("f", (Y,)))]], (N0,), ())
        self.check(["a"], [[(X, "a")]], ("a",), ())
        # Solved, these name no hidden unknown.
        self.check([X], [[(X, "a"), (Y, Y)]], (N0,), (((N0, "a"),),))
        self.check([X], [[(("f", (Y, X)), ("f", (Y, "a")))]], (N0,), (((N0, "a"),),))
        # Solved, this one names one, although its value is told.
        self.check([X], [[(X, ("f", (Y,))), (Y, "a")]], (N0,), ())

    def test_those_that_follow_go(self):
        self.check([X, Y], [[(X, "a"), (Y, "b")], [(X, "a")]], (N0, N1), (((N0, "a"),),))
        self.check([X, Y], [[(X, "a"), (Y, "a")], [(X, Y)]], (N0, N1), (((N1, N0),),))
        self.check([X], [[(X, "a")], [("a", X)], [(X, "a"), (X, "a")]], (N0,), (((N0, "a"),),))
        self.check([X, Y], [[(X, ("f", (Y,)))], [(X, ("f", (Y,))), (Y, "b")]], (N0, N1), (((N0, ("f", (N1,))),),))

    def test_inequations_ascend(self):
        terms = [("f", (N1,)), "b", "a", ("e", (N1, N1)), ("g", ("a",)), 3, -3, ("f", ("a",)), ("f", (3,)), N1]
        rows = [[(N0, term)] for term in terms] + [[(N0, "c"), (N1, "a")], [(N0, "c"), (N1, 1)], [(N1, "c")]]
        told = Answer([N0, N1], rows).inequations
        ascending = [-3, 3, "a", "b", "c", "c"]
        self.assertEqual([pairs[0][1] for pairs in told[:6]], ascending)
        self.assertEqual(told[4], ((N0, "c"), (N1, 1)))
        self.assertEqual(told[5], ((N0, "c"), (N1, "a")))
        others = [("f", (3,)), ("f", ("a",)), ("f", (N1,)), ("g", ("a",)), ("e", (N1, N1))]
        self.assertEqual([pairs[0][1] for pairs in told[6:11]], others)
        self.assertEqual(told[11:], (((N1, "c"),), ((N1, N0),)))
        self.assertEqual(Answer([N0, N1], rows[::-1]).inequations, told)

    def test_equal_exactly_for_the_same_instances(self):
        self.assertEqual(Answer([X, Y], [[(X, Y)]]), Answer([Z, X], [[(X, Z)]]))
        self.assertNotEqual(Answer([X, Y], []), Answer([X, X], []))
        self.assertNotEqual(Answer([X], [[(X, "a")]]), Answer([X], []))
        self.assertNotEqual(Answer([], []), Answer(["a"], []))
        self.assertNotEqual(Answer([], []), ((), ()))

    def test_bad_parts_in_order(self):
        def part(terms, inequations):
            with self.assertRaises(BadAnswer) as caught:
                Answer(terms, inequations)
            return caught.exception.part

        for terms in (None, "ab", 3, [None], [True], [X, wrapped(20, X)], [("f", [X])], {}):
            self.assertEqual(part(terms, None), "terms")
        deep = [[(X, wrapped(20, X))]]
        for inequations in (None, 3, [None], [(X, Y)], [[X]], [[(X,)]], [[(X, True)]], deep, [[[X, Y]]]):
            self.assertEqual(part([X], inequations), "inequations")
        for inequations in ([[]], [[("a", "a")]], [[(X, "a")], [(X, X), (Y, Y)]]):
            self.assertEqual(part([X], inequations), "empty")
        Answer([wrapped(19, X)], [[(X, wrapped(19, X))]])

    def test_many_terms_are_let(self):
        self.assertEqual(len(Answer([X] * 30, []).terms), 30)

    def test_arguments_are_not_kept(self):
        terms, inequations = [X, Y], [[(X, "a")]]
        answer = Answer(terms, inequations)
        terms.append(Z)
        inequations[0].append((Y, "b"))
        self.assertEqual((answer.terms, answer.inequations), ((N0, N1), (((N0, "a"),),)))


class InstancesTest(unittest.TestCase):
    def test_rows(self):
        answer = Answer([X, ("f", (X, Y))], [[(X, "a")], [(X, Y)]])
        self.assertTrue(is_instance(answer, ("b", ("f", ("b", "a")))))
        self.assertTrue(is_instance(answer, ["b", ("f", ("b", "a"))]))
        for row in (("a", ("f", ("a", "b"))), ("b", ("f", ("b", "b"))), ("b", ("f", ("c", "a"))), ("b", "b"), ("b",),
                    ("b", ("f", ("b",))), ("b", ("g", ("b", "a"))), ()):
            self.assertFalse(is_instance(answer, row), row)
        self.assertTrue(is_instance(Answer([], []), ()))
        self.assertFalse(is_instance(Answer(["a"], []), (1,)))
        self.assertTrue(is_instance(Answer([("s", (X,))], []), (wrapped(200, 0),)))

    def test_random_rows(self):
        source = random.Random(12)
        ground = ["a", "b", "c", ("f", ("a",)), ("f", ("b",)), ("f", ("a", "b")), ("f", (("f", ("a",)),))]
        counts = {True: 0, False: 0}
        for _ in range(1500):
            terms, inequations, answer = random_answer(source, 3)
            worth = {name: source.choice(ground) for name in names_in(terms)}
            # What stands in no term can always be chosen so that it is new.
            worth.update({name: 100 + at for at, name in enumerate(["x", "y", 0, "h"]) if name not in worth})
            row = tuple(put_in(term, worth) for term in terms)
            failing = [all(put_in(one, worth) == put_in(other, worth) for one, other in pairs) for pairs in inequations]
            counts[any(failing)] += 1
            self.assertEqual(is_instance(answer, row), not any(failing))
            self.assertEqual(Answer(terms[:], [[(b, a) for a, b in pairs] for pairs in inequations][::-1]), answer)
            for at in range(len(answer.inequations)):
                left = answer.inequations[:at] + answer.inequations[at + 1 :]
                self.assertNotEqual(Answer(answer.terms, left), answer)
        self.assertGreater(min(counts.values()), 20)


class CoveringTest(unittest.TestCase):
    def covered(self, answer, answers):
        paper = judge_covered(answer, answers)
        self.assertIsInstance(paper, Covered)
        self.assertIs(bool(paper), True)
        self.assertTrue(paper.shows(answer, answers))

    def outside(self, answer, answers):
        paper = judge_covered(answer, answers)
        self.assertIsInstance(paper, Outside)
        self.assertIs(bool(paper), False)
        self.assertTrue(paper.shows(answer, answers))
        self.assertFalse(Covered().shows(answer, answers))
        self.assertIsInstance(paper.row, tuple)
        self.assertTrue(is_instance(answer, paper.row))
        self.assertFalse(any(is_instance(other, paper.row) for other in answers))
        return paper.row

    def test_by_one(self):
        every = Answer([X, Y], [])
        self.covered(every, [every])
        self.covered(Answer([X, X], []), [every])
        self.covered(Answer(["a", X], [[(X, "a")]]), [Answer([X, Y], [[(X, Y)]])])
        self.outside(every, [])
        self.assertEqual(len(set(self.outside(every, [Answer([X, X], [])]))), 2)
        self.outside(Answer([X, Y], []), [Answer([X, Y], [[(X, Y)]])])

    def test_by_several_together(self):
        every = Answer([X], [])
        parts = [Answer([X], [[(X, "a")], [(X, "b")]]), Answer(["a"], []), Answer(["b"], [])]
        self.covered(every, parts)
        self.covered(every, tuple(parts[::-1]))
        self.assertEqual(self.outside(every, parts[:2]), ("b",))
        self.assertEqual(self.outside(every, parts[::2]), ("a",))
        unlike = Answer([X, Y], [[(X, Y)]])
        self.covered(Answer([X, Y], []), [unlike, Answer([X, X], [])])
        self.outside(Answer([X, Y], []), [unlike, Answer([X, X], [[(X, "a")]])])
        nested = [Answer([X], [[(X, "a")]]), Answer([X], [[(X, "b")]])]
        self.covered(every, nested)

    def test_what_is_never_the_same_counts_for_nothing(self):
        self.outside(Answer(["a", X], []), [Answer(["b", X], []), Answer([("f", (X,)), Y], [])])

    def test_rows_without_terms(self):
        self.covered(Answer([], []), [Answer([], [])])
        self.assertEqual(self.outside(Answer([], []), []), ())

    def test_the_row_has_constants_that_stand_nowhere(self):
        others = [Answer([n], []) for n in range(20)] + [Answer([("f", (30,))], [])]
        self.assertNotIn(self.outside(Answer([X], []), others), [(n,) for n in range(20)])

    def test_what_shows_takes_of_a_row(self):
        answer, others = Answer([X, Y], [[(X, Y)]]), [Answer(["a", X], []), Answer([X, Y], [[(Y, "b")]])]
        self.assertTrue(Outside(("c", "b")).shows(answer, others))
        self.assertTrue(Outside(["c", "b"]).shows(answer, others))
        self.assertTrue(Outside((wrapped(100, "a"), "b")).shows(answer, others))
        for row in (("a", "b"), ("b", "b"), ("c", "a"), ("c",), ("c", "b", "b"), (X, "b"), ()):
            self.assertFalse(Outside(row).shows(answer, others), row)

    def test_deep_answers(self):
        deep = Answer([wrapped(19, X)], [])
        self.covered(deep, [Answer([wrapped(1, X)], [])])
        self.outside(Answer([wrapped(1, X)], []), [deep])

    def test_random(self):
        source = random.Random(3)
        ground = ["a", "b", "c", ("f", ("a",)), ("f", ("b",)), ("f", ("a", "b")), ("f", ("c", "c"))]
        counts = {True: 0, False: 0}
        for _ in range(600):
            answer = random_answer(source, 2)[2]
            others = [random_answer(source, 2)[2] for _ in range(source.randrange(0, 4))]
            if source.random() < 0.6:
                others.append(Answer(answer.terms, list(answer.inequations) + [[(N0, "a")]]))
                others.append(Answer([put_in(term, {0: "a"}) for term in answer.terms], []))
            paper = judge_covered(answer, others)
            counts[bool(paper)] += 1
            self.assertTrue(paper.shows(answer, others))
            for _ in range(20):
                worth = {name: source.choice(ground) for name in names_in(answer.terms)}
                row = tuple(put_in(term, worth) for term in answer.terms)
                if is_instance(answer, row) and not any(is_instance(other, row) for other in others):
                    self.assertFalse(paper)
                    self.assertTrue(Outside(row).shows(answer, others))
        self.assertGreater(min(counts.values()), 100)

    def test_too_large(self):
        def others(many):
            return [Answer([X, Y], [[(X, n)], [(Y, n)], [(X, n + 50)]]) for n in range(many)]

        answer = Answer([X, Y], [])
        self.outside(answer, others(2))
        self.covered(answer, others(6))
        self.covered(answer, others(6) + [Answer(["a", X], [])])
        one = Answer([X, Y], [[(X, 90)]])
        for papers in (others(6) + [one], [Answer([X, Y], [])] + others(6) + [one], [one] + others(6)):
            for call in (judge_covered, Covered().shows):
                with self.assertRaises(TooLarge) as caught:
                    call(answer, papers)
                self.assertEqual(caught.exception.number, 8192)
        self.assertFalse(Outside((1, 2)).shows(answer, [answer] + others(6) + [one]))
        just = [Answer([X, Y], [[(X, n)] for n in range(16)]), Answer([X, Y], [[(Y, n)] for n in range(240)])]
        with self.assertRaises(TooLarge) as caught:
            judge_covered(answer, just)
        self.assertEqual(caught.exception.number, 4097)
        # What can't be made the same as the answer's terms doesn't count.
        apart = [Answer([name, Y], [[(Y, n)] for n in range(70)]) for name in ("b", "c")]
        self.outside(Answer(["a", X], []), apart)

    def test_equal_to_the_like_alone(self):
        self.assertEqual(Covered(), Covered())
        self.assertEqual(Outside(["a"]), Outside(("a",)))
        self.assertNotEqual(Outside(("a",)), Outside(("b",)))
        self.assertNotEqual(Covered(), Outside(()))
        self.assertNotEqual(Outside(("a",)), ("a",))
        self.assertNotEqual(Covered(), True)

    def test_bad_answers(self):
        answer, other = Answer([X], []), Answer([X, Y], [])
        for paper in (None, Covered(), Outside(("a",))):
            call = judge_covered if paper is None else paper.shows
            for wrong in (None, (), 3, Covered()):
                with self.assertRaises(BadAnswer) as caught:
                    call(wrong, None)
                self.assertEqual(caught.exception.part, "answer")
            for wrong in (None, 3, answer, [None], [answer, None], [other], [answer, other], {}):
                with self.assertRaises(BadAnswer) as caught:
                    call(answer, wrong)
                self.assertEqual(caught.exception.part, "answers")

    def test_spoilt(self):
        answer, others = Answer([X, ("f", (Y,))], []), [Answer([X, ("f", (1,))], []), Answer([1, W], [])]
        paper = judge_covered(answer, others)
        self.assertGreater(check_spoilt(self, paper, [answer, others]), 200)
        self.assertFalse(Outside((2, ("f", (True,)))).shows(answer, others))


if __name__ == "__main__":
    unittest.main()
