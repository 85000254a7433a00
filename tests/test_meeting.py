"""[17]: answers together."""

import random
import unittest

from proofsizes.answers import Answer, is_instance
from proofsizes.covering import judge_covered
from proofsizes.errors import BadAnswer
from proofsizes.meeting import is_pattern_of, kept, least_pattern, meet
from proofsizes.terms import names_in
from tests.plain import put_in
from tests.samples import W, X, Y, Z, random_term, wrapped
from tests.test_answers import random_answer

N0, N1 = ("?", 0), ("?", 1)
GROUND = ["a", "b", "c", ("f", ("a",)), ("f", ("b",)), ("f", ("a", "b")), ("f", ("c", "c")), ("f", (("f", ("a",)),))]


def some_instances(source, answer):
    """Some instances of an answer."""
    found = []
    for _ in range(12):
        worth = {name: source.choice(GROUND) for name in names_in(answer.terms)}
        row = tuple(put_in(term, worth) for term in answer.terms)
        if is_instance(answer, row):
            found.append(row)
    return found


class MeetTest(unittest.TestCase):
    def test_terms_and_inequations(self):
        self.assertEqual(meet(Answer([X, Y], []), Answer([X, X], [])), Answer([X, X], []))
        self.assertEqual(meet(Answer([("f", (X,)), Y], []), Answer([Z, "a"], [])), Answer([("f", (X,)), "a"], []))
        one, other = Answer([X, Y], [[(X, "a")]]), Answer([X, Y], [[(Y, X)], [(X, 1), (Y, 2)]])
        self.assertEqual(meet(one, other), Answer([X, Y], [[(X, "a")], [(Y, X)], [(X, 1), (Y, 2)]]))
        one = Answer([X, ("f", (Y,))], [[(X, Y)]])
        self.assertEqual(meet(one, Answer([1, X], [[(X, ("f", (2,)))]])), Answer([1, ("f", (Y,))], [[(Y, 1)], [(Y, 2)]]))

    def test_none(self):
        self.assertIsNone(meet(Answer(["a"], []), Answer(["b"], [])))
        self.assertIsNone(meet(Answer([X, X], []), Answer([X, ("f", (X,))], [])))
        self.assertIsNone(meet(Answer([X], [[(X, "a")]]), Answer(["a"], [])))
        self.assertIsNone(meet(Answer([X, Y], [[(X, Y)]]), Answer([X, X], [])))

    def test_what_is_hidden_is_no_bar(self):
        self.assertEqual(meet(Answer([X, Y], [[(X, ("f", (Y,)))]]), Answer([("f", (X,)), Y], [])),
                         Answer([("f", (X,)), Y], [[(X, Y)]]))

    def test_no_terms(self):
        self.assertEqual(meet(Answer([], []), Answer([], [])), Answer([], []))

    def test_random(self):
        source = random.Random(67)
        kinds = {True: 0, False: 0}
        for _ in range(500):
            one, other = random_answer(source, 2)[2], random_answer(source, 2)[2]
            both = meet(one, other)
            self.assertEqual(meet(other, one), both)
            kinds[both is None] += 1
            rows = some_instances(source, one) + some_instances(source, other)
            rows += [] if both is None else some_instances(source, both)
            for row in rows:
                is_both = is_instance(one, row) and is_instance(other, row)
                self.assertIs(both is not None and is_instance(both, row), is_both)
            if both is not None:
                self.assertTrue(judge_covered(both, [one]))
                self.assertTrue(judge_covered(both, [other]))
        self.assertGreater(min(kinds.values()), 50)


class KeptTest(unittest.TestCase):
    def test_places(self):
        answer = Answer([X, ("f", (Y,)), 1], [[(X, "a")], [(Y, X)]])
        self.assertEqual(kept(answer, [0, 1, 2]), answer)
        self.assertEqual(kept(answer, (1, 0)), Answer([("f", (Y,)), X], [[(X, "a")], [(Y, X)]]))
        self.assertEqual(kept(answer, [0]), Answer([X], [[(X, "a")]]))
        self.assertEqual(kept(answer, [1]), Answer([("f", (X,))], []))
        self.assertEqual(kept(answer, [0, 2, 0]), Answer([X, 1, X], [[(X, "a")]]))
        self.assertEqual(kept(answer, [2, 2]), Answer([1, 1], []))
        self.assertEqual(kept(answer, []), Answer([], []))
        self.assertEqual(kept(Answer([], []), ()), Answer([], []))

    def test_random(self):
        source = random.Random(71)
        for _ in range(300):
            answer = random_answer(source, 2)[2]
            many = len(answer.terms)
            places = [source.randrange(many) for _ in range(source.randrange(0, 4))] if many else []
            some = kept(answer, places)
            for row in some_instances(source, answer):
                self.assertTrue(is_instance(some, tuple(row[place] for place in places)))
            worth = {name: 100 + name for name in names_in(answer.terms)}
            fresh = [put_in(term, worth) for term in answer.terms]
            # Unlike constants that stand nowhere fulfil all that can be.
            self.assertTrue(is_instance(some, tuple(fresh[place] for place in places)))
            for row in some_instances(source, some):
                asked = {place: row[at] for at, place in enumerate(places)}
                if all(row[at] == asked[place] for at, place in enumerate(places)):
                    wide = Answer([asked.get(place, ("?", place)) for place in range(many)], [])
                    self.assertIsNotNone(meet(answer, wide))

    def test_wrong(self):
        answer = Answer([X, Y], [])
        for places in (None, 3, {}, [2], [-1], [0, None], [True], ["0"], [(0,)], [0, 1, 2]):
            with self.assertRaises(BadAnswer) as caught:
                kept(answer, places)
            self.assertEqual(caught.exception.part, "places")
        for wrong in (None, (X,), [answer], 3):
            with self.assertRaises(BadAnswer) as caught:
                kept(wrong, None)
            self.assertEqual(caught.exception.part, "answer")
        with self.assertRaises(BadAnswer):
            kept(Answer([], []), [0])


class PatternTest(unittest.TestCase):
    def check(self, one, other, terms):
        one, other = Answer(one, []), Answer(other, [])
        pattern = least_pattern(one, other)
        self.assertEqual(pattern, Answer(terms, []))
        self.assertEqual(least_pattern(other, one), pattern)
        self.assertTrue(is_pattern_of(pattern, one))
        self.assertTrue(is_pattern_of(pattern, other))

    def test_least_patterns(self):
        self.check(["a"], ["a"], ["a"])
        self.check(["a"], ["b"], [X])
        self.check([1], ["a"], [X])
        self.check(["a", "a"], ["b", "b"], [X, X])
        self.check(["a", "b"], ["b", "a"], [X, Y])
        self.check([X, X], [X, Y], [X, Y])
        self.check([X, X], [X, "a"], [X, Y])
        self.check([X, ("f", (X,))], ["a", ("f", ("a",))], [X, ("f", (X,))])
        self.check([("f", ("a", 1))], [("f", ("a", 2))], [("f", ("a", X))])
        self.check([("f", ("a",))], [("f", ("a", "a"))], [X])
        self.check([("f", ("a",))], [("g", ("a",))], [X])
        self.check([("f", ("a",)), "a", ("f", ("b",))], [1, 1, ("f", (1,))], [X, Y, ("f", (Z,))])
        self.check([("f", ("a",)), ("g", (("f", ("a",)),))], [1, ("g", (1,))], [X, ("g", (X,))])
        self.check([], [], [])
        self.check([X], [Y], [X])

    def test_inequations_change_nothing(self):
        one, other = Answer([X, "a"], [[(X, "b")]]), Answer([X, Y], [[(X, Y)]])
        self.assertEqual(least_pattern(one, other), Answer([X, Y], []))
        self.assertEqual(least_pattern(one, one), Answer([X, "a"], []))

    def test_deep_terms(self):
        one, other = wrapped(19, "a"), wrapped(19, "b")
        self.check([one], [other], [wrapped(19, X)])
        self.check([one], [wrapped(18, "a")], [wrapped(18, X)])

    def test_random(self):
        source = random.Random(73)
        names = ["x", "y", "z"]
        for _ in range(400):
            one, other = random_answer(source, 2)[2], random_answer(source, 2)[2]
            pattern = least_pattern(one, other)
            self.assertEqual(pattern.inequations, ())
            self.assertEqual(least_pattern(other, one), pattern)
            self.assertTrue(judge_covered(one, [pattern]))
            self.assertTrue(judge_covered(other, [pattern]))
            for _ in range(5):
                wide = Answer([random_term(source, 2, names) for _ in one.terms], [])
                if judge_covered(one, [wide]) and judge_covered(other, [wide]):
                    self.assertTrue(judge_covered(pattern, [wide]))
                    self.assertTrue(is_pattern_of(wide, pattern))

    def test_is_pattern_of(self):
        for pattern, terms, is_one in (
            ([X], ["a"], True),
            (["a"], [X], False),
            ([X], [("f", (X,))], True),
            ([X, Y], [X, X], True),
            ([X, X], [X, Y], False),
            ([X, Y], [Y, X], True),
            ([("f", (X, Y)), Y], [("f", (Y, X)), X], True),
            ([("f", (X,)), Y], [("f", (Y,)), ("f", (Y,))], True),
            ([("f", (X,)), X], [("f", (Y,)), ("f", (Y,))], False),
            ([], [], True),
        ):
            self.assertIs(is_pattern_of(Answer(pattern, []), Answer(terms, [])), is_one, (pattern, terms))
        self.assertIs(is_pattern_of(Answer([X], [[(X, 1)]]), Answer([1], [])), True)
        self.assertIs(is_pattern_of(Answer([X], []), Answer([W], [[(W, 1)]])), True)


class WrongTest(unittest.TestCase):
    def test_what_are_not_two_answers(self):
        one, wide = Answer([X], []), Answer([X, Y], [])
        for call in (meet, least_pattern, is_pattern_of):
            for pair in ((None, one), (one, None), (one, wide), (wide, one), ((X,), one), (3, 3), (one, [one])):
                with self.assertRaises(BadAnswer) as caught:
                    call(*pair)
                self.assertEqual(caught.exception.part, "answers")

    def test_arguments_are_not_changed(self):
        one, other = Answer([X, "a"], [[(X, "b")]]), Answer([X, Y], [[(X, Y)]])
        places = [1, 0]
        for call in (meet, least_pattern, is_pattern_of):
            call(one, other)
        kept(one, places)
        self.assertEqual(places, [1, 0])
        self.assertEqual((one, other), (Answer([N0, "a"], [[(N0, "b")]]), Answer([N0, N1], [[(N0, N1)]])))


if __name__ == "__main__":
    unittest.main()
