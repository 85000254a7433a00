"""[23]: integers with bounds."""

import itertools
import random
import unittest

from proofsizes.errors import RelationError
from proofsizes.gaps import BadBound, Broken, Chain, Placed, Round, closed, judge_bound, judge_gaps
from tests.spoiling import check_spoilt

# No row of bounds, and the number of the first that is none.
NO_ROWS = [
    (None, None), (3, None), ("", None), ({}, None), ([None], 0), ([("x", "y")], 0), ([("x", "y", 1, 1)], 0),
    ([["x", "y", 1]], 0), ([("x", "x", 1)], 0), ([(None, None, 1)], 0), ([("x", 0, 1)], 0), ([("X", "y", 1)], 0),
    ([("x", "ninesigns", 1)], 0), ([("x", "y", True)], 0), ([("x", "y", None)], 0), ([("x", "y", "1")], 0),
    ([("x", "y", 1), (None, "x", 2), ("y", "y", 0), None], 2), ([("x", "y", 1), ("?", "y", 0)], 1),
]


def random_bounds(source, names, most, reach=3):
    sides = [None] + list(names)
    found = []
    for _ in range(source.randrange(0, most + 1)):
        one, other = source.sample(sides, 2)
        found.append((one, other, source.randrange(-reach, reach + 1)))
    return found


def keeps(bounds, places):
    """Whether integers keep bounds, by the words of the document."""
    where = {**places, None: 0}
    return all(where[one] <= where[other] + number for one, other, number in bounds)


def kept_rows(bounds, names, reach):
    """All dicts of integers from -reach to reach that keep bounds."""
    for row in itertools.product(range(-reach, reach + 1), repeat=len(names)):
        places = dict(zip(names, row))
        if keeps(bounds, places):
            yield places


class JudgeGapsTest(unittest.TestCase):
    def placed(self, bounds):
        paper = judge_gaps(bounds)
        self.assertIsInstance(paper, Placed)
        self.assertIs(bool(paper), True)
        self.assertIs(paper.shows(bounds), True)
        self.assertTrue(keeps(bounds, paper.places))
        return paper.places

    def round(self, bounds):
        paper = judge_gaps(bounds)
        self.assertIsInstance(paper, Round)
        self.assertIs(bool(paper), False)
        self.assertIsInstance(paper.numbers, tuple)
        self.assertIs(paper.shows(bounds), True)
        return paper.numbers

    def test_what_can_be_kept(self):
        self.assertEqual(self.placed([]), {})
        self.assertEqual(self.placed(()), {})
        self.assertEqual(self.placed([("x", None, 4), (None, "x", -4)]), {"x": 4})
        self.assertEqual(self.placed([("x", None, -4), (None, "x", 4)]), {"x": -4})
        places = self.placed([("x", "y", -1), ("y", "z", -1), ("z", "x", 2)])
        self.assertEqual([places["y"] - places["x"], places["z"] - places["x"]], [1, 2])
        self.placed([("x", "y", 0)] * 3 + [("y", "x", 0)])
        self.placed([("x", "y", 10 ** 30), ("y", "x", -10 ** 30)])
        self.assertEqual(sorted(self.placed([("x", "y", -5), (None, "y", -7), ("x", None, -9)])), ["x", "y"])

    def test_rounds_that_bar_them(self):
        self.assertEqual(sorted(self.round([("x", "y", -1), ("y", "x", 0)])), [0, 1])
        self.assertEqual(sorted(self.round([("x", None, 2), ("y", "x", 9), (None, "x", -3)])), [0, 2])
        self.assertEqual(len(self.round([("x", "y", 1), ("y", "z", 1), ("z", "w", 1), ("w", "x", -4)])), 4)
        self.assertEqual(sorted(self.round([("a", "b", 5), ("x", "y", 5), ("x", "y", -1), ("y", "x", 0)])), [2, 3])
        self.round([("x", "y", 10 ** 30), ("y", "x", -10 ** 30 - 1)])

    def test_random(self):
        source = random.Random(103)
        kinds = {True: 0, False: 0}
        for _ in range(1500):
            bounds = random_bounds(source, "xyz", 7)
            paper = judge_gaps(bounds)
            kinds[bool(paper)] += 1
            self.assertTrue(paper.shows(bounds))
            names = sorted({side for one, other, _ in bounds for side in (one, other) if side})
            if paper:
                self.assertTrue(keeps(bounds, paper.places))
            elif len(names) < 3:
                self.assertFalse(list(kept_rows(bounds, names, 8)))
        self.assertGreater(min(kinds.values()), 300)

    def test_many_bounds(self):
        bounds = [("n" + str(at), "n" + str(at + 1), -at) for at in range(200)]
        self.assertEqual(self.placed(bounds)["n200"] - self.placed(bounds)["n0"], 19900)
        self.assertEqual(len(self.round(bounds + [("n200", "n0", 19899)])), 201)

    def test_what_placed_shows(self):
        bounds = [("x", "y", 1), (None, "y", 3)]
        for places, is_right in (
            ({"x": 0, "y": -1}, True),
            ({"y": 5, "x": 6}, True),
            ({"x": 7, "y": 5}, False),
            ({"x": -9, "y": -4}, False),
            ({"x": 0}, False),
            ({"x": 0, "y": 0, "z": 0}, False),
            ({"x": 0, "y": 0, None: 0}, False),
            ({}, False),
        ):
            self.assertIs(Placed(places).shows(bounds), is_right, places)
        self.assertIs(Placed({}).shows([]), True)

    def test_what_round_shows(self):
        bounds = [("x", "y", -1), ("y", "x", 0), ("y", "z", -2), ("z", "x", 1), ("z", "x", 4), ("x", None, 0)]
        for numbers, is_right in (
            ((0, 1), True),
            ((1, 0), True),
            ([0, 1], True),
            ((0, 1, 0, 1), True),
            ((0, 2, 3), True),
            ((2, 3, 0), True),
            ((0, 2, 4), False),
            ((0, 2, 4, 0, 1), False),
            ((0, 1, 0, 2, 3), True),
            ((0,), False),
            ((), False),
            ((0, 2), False),
            ((1, 2), False),
            ((0, 6), False),
            ((0, -5), False),
            ((0, True), False),
            ((0, 0), False),
        ):
            self.assertIs(Round(numbers).shows(bounds), is_right, numbers)


class ClosedTest(unittest.TestCase):
    def test_least_numbers(self):
        self.assertEqual(closed([]), {})
        self.assertEqual(closed([("x", "y", 2)]), {("x", "y"): 2})
        self.assertEqual(closed([("x", "y", 2), ("x", "y", 1), ("x", "y", 3)]), {("x", "y"): 1})
        table = closed([("x", "y", 2), ("y", None, 3), (None, "x", 1)])
        self.assertEqual(table, {("x", "y"): 2, ("x", None): 5, ("y", None): 3, ("y", "x"): 4, (None, "x"): 1, (None, "y"): 3})
        self.assertEqual(closed([("x", "y", 0), ("y", "x", 0)]), {("x", "y"): 0, ("y", "x"): 0})
        self.assertIsNone(closed([("x", "y", 0), ("y", "x", -1)]))
        self.assertIsNone(closed([("a", "b", 7), ("x", None, 0), (None, "x", -1)]))

    def test_random(self):
        source = random.Random(107)
        for _ in range(300):
            bounds = random_bounds(source, "xyz", 5, 2)
            table = closed(bounds)
            self.assertEqual(table is None, not judge_gaps(bounds))
            if table is None:
                continue
            for one, other in itertools.permutations([None, "x", "y", "z"], 2):
                number = table.get((one, other))
                if number is None:
                    self.assertFalse(judge_bound(bounds, (one, other, 99)))
                else:
                    self.assertTrue(judge_bound(bounds, (one, other, number)))
                    self.assertFalse(judge_bound(bounds, (one, other, number - 1)))

    def test_the_dict_is_new(self):
        bounds = [("x", "y", 2)]
        closed(bounds)["more", None] = 1
        self.assertEqual(closed(bounds), {("x", "y"): 2})
        self.assertEqual(bounds, [("x", "y", 2)])


class JudgeBoundTest(unittest.TestCase):
    def chain(self, bounds, bound):
        paper = judge_bound(bounds, bound)
        self.assertIsInstance(paper, Chain)
        self.assertIs(bool(paper), True)
        self.assertIsInstance(paper.numbers, tuple)
        self.assertIs(paper.shows(bounds, bound), True)
        return paper.numbers

    def broken(self, bounds, bound):
        paper = judge_bound(bounds, bound)
        self.assertIsInstance(paper, Broken)
        self.assertIs(bool(paper), False)
        self.assertIs(paper.shows(bounds, bound), True)
        self.assertTrue(keeps(bounds, paper.places))
        self.assertFalse(keeps([bound], paper.places))
        return paper.places

    def test_chains(self):
        bounds = [("x", "y", 2), ("y", "z", -1), ("x", "z", 3), (None, "x", 0)]
        self.assertEqual(self.chain(bounds, ("x", "z", 1)), (0, 1))
        self.assertEqual(self.chain(bounds, ("x", "y", 5)), (0,))
        self.assertEqual(self.chain(bounds, (None, "z", 1)), (3, 0, 1))
        self.assertEqual(self.chain([("x", None, -2), (None, "y", 1)], ("x", "y", -1)), (0, 1))

    def test_broken(self):
        bounds = [("x", "y", 2), ("y", "z", -1), ("x", "z", 3)]
        self.assertEqual(sorted(self.broken(bounds, ("x", "z", 0))), ["x", "y", "z"])
        self.assertEqual(sorted(self.broken(bounds, ("w", "z", 0))), ["w", "x", "y", "z"])
        self.assertEqual(sorted(self.broken([], ("x", None, 10 ** 20))), ["x"])
        self.broken(bounds, ("z", "x", 1000))
        self.broken(bounds, (None, "x", 5))
        self.assertEqual(self.broken([("x", None, 3), (None, "x", -3)], ("x", None, 2)), {"x": 3})

    def test_the_round_comes_first(self):
        bounds = [("x", "y", 1), ("a", "b", 0), ("b", "a", -1)]
        paper = judge_bound(bounds, ("x", "y", 1))
        self.assertIsInstance(paper, Round)
        self.assertTrue(paper.shows(bounds))

    def test_what_chain_shows(self):
        bounds = [("x", "y", 2), ("y", "x", -1), ("y", None, 1), ("x", None, 9)]
        for numbers, number, is_right in (
            ((0, 2), 3, True),
            ((0, 2), 2, False),
            ([0, 2], 4, True),
            ((3,), 9, True),
            ((3,), 8, False),
            ((0, 1, 0, 2), 4, True),
            ((0, 1, 0, 2), 3, False),
            ((), 99, False),
            ((0,), 99, False),
            ((2,), 99, False),
            ((1, 3), 99, False),
            ((2, 0), 99, False),
            ((0, 4), 99, False),
        ):
            self.assertIs(Chain(numbers).shows(bounds, ("x", None, number)), is_right, numbers)

    def test_what_broken_shows(self):
        bounds, bound = [("x", "y", 0)], ("y", "z", 1)
        for places, is_right in (
            ({"x": 0, "y": 2, "z": 0}, True),
            ({"x": 0, "y": 1, "z": 0}, False),
            ({"x": 3, "y": 2, "z": 0}, False),
            ({"x": 0, "y": 2}, False),
            ({"x": 0, "y": 2, "z": 0, "w": 0}, False),
            ({}, False),
        ):
            self.assertIs(Broken(places).shows(bounds, bound), is_right, places)

    def test_random(self):
        source = random.Random(109)
        kinds = {}
        for _ in range(1500):
            bounds = random_bounds(source, "xyz", 6)
            one, other = source.sample([None, "x", "y", "z", "w"], 2)
            bound = (one, other, source.randrange(-3, 8))
            paper = judge_bound(bounds, bound)
            kinds[type(paper)] = kinds.get(type(paper), 0) + 1
            self.assertTrue(paper.shows(bounds) if isinstance(paper, Round) else paper.shows(bounds, bound))
            self.assertEqual(isinstance(paper, Round), not judge_gaps(bounds))
        self.assertEqual(len(kinds), 3)
        self.assertGreater(min(kinds.values()), 100)


class WrongTest(unittest.TestCase):
    def test_the_error(self):
        self.assertIs(BadBound.__mro__[1], RelationError)
        self.assertEqual(BadBound(3).number, 3)
        self.assertIsNone(BadBound(None).number)

    def test_no_rows_of_bounds(self):
        right = ("x", "y", 0)
        calls = [judge_gaps, closed, Placed({}).shows, Round((0,)).shows]
        calls += [lambda bounds, call=call: call(bounds, right) for call in (judge_bound, Chain(()).shows, Broken({}).shows)]
        calls += [lambda bounds, call=call: call(bounds, None) for call in (judge_bound, Chain(()).shows, Broken({}).shows)]
        for bounds, number in NO_ROWS:
            for call in calls:
                with self.assertRaises(BadBound, msg=bounds) as caught:
                    call(bounds)
                self.assertEqual(caught.exception.number, number, bounds)

    def test_a_single_one_that_is_none(self):
        for bound in (None, 3, ("x", "x", 1), ("x", "y"), ["x", "y", 1], ("x", "y", True), [], (None, None, 0), ("X", "y", 0)):
            for call in (judge_bound, Chain((0,)).shows, Broken({}).shows):
                with self.assertRaises(BadBound, msg=bound) as caught:
                    call([("x", "y", 1), ("y", "x", -2)], bound)
                self.assertEqual(caught.exception.number, 0)

    def test_equal_to_the_like_alone(self):
        self.assertEqual(Placed({"x": 1, "y": 2}), Placed({"y": 2, "x": 1}))
        self.assertNotEqual(Placed({"x": 1}), Placed({"x": 2}))
        self.assertNotEqual(Placed({"x": 1}), Broken({"x": 1}))
        self.assertNotEqual(Placed({}), {})
        self.assertEqual(Round([0, 1]), Round((0, 1)))
        self.assertNotEqual(Round((0, 1)), Round((1, 0)))
        self.assertNotEqual(Round((0, 1)), Chain((0, 1)))
        self.assertNotEqual(Round((0, 1)), (0, 1))
        self.assertEqual(Chain([0]), Chain((0,)))
        self.assertNotEqual(Chain((0,)), Chain((1,)))
        self.assertEqual(Broken({"x": 1}), Broken({"x": 1}))
        self.assertNotEqual(Broken({"x": 1}), Broken({"x": 3}))

    def test_arguments_are_not_changed_and_not_kept(self):
        bounds = [("x", "y", 0), ("y", None, 3)]
        paper = judge_gaps(bounds)
        judge_bound(bounds, ("x", None, 2))
        self.assertEqual(bounds, [("x", "y", 0), ("y", None, 3)])
        paper.places["x"] = None
        self.assertTrue(judge_gaps(bounds).shows(bounds))
        places = {"x": 0}
        kept = (Placed(places), Broken(places))
        places["x"] = 1
        self.assertEqual([paper.places for paper in kept], [{"x": 0}] * 2)

    def test_spoilt(self):
        bounds = [("x", "y", 0), ("y", None, 3)]
        self.assertGreater(check_spoilt(self, judge_gaps(bounds), [bounds]), 150)
        self.assertGreater(check_spoilt(self, judge_bound(bounds, ("x", None, 3)), [bounds, ("x", None, 3)]), 100)
        self.assertGreater(check_spoilt(self, judge_bound(bounds, ("x", None, 2)), [bounds, ("x", None, 2)]), 150)
        bounds = [("x", "y", 0), ("y", "x", -3)]
        self.assertGreater(check_spoilt(self, judge_gaps(bounds), [bounds]), 100)
        self.assertFalse(Placed({"x": True}).shows([("x", None, 3)]))
        self.assertFalse(Round((False, True)).shows(bounds))


if __name__ == "__main__":
    unittest.main()
