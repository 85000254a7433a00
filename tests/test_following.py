"""[16]: whether one inequation more follows."""

import random
import unittest

from proofsizes.errors import BadTerm
from proofsizes.following import Against, Follows, judge_follows
from proofsizes.stores import NoValues, Valued, judge_values
from proofsizes.terms import names_in, sides_of
from tests.plain import put_in
from tests.samples import W, X, Y, Z, random_term, wrapped
from tests.spoiling import check_spoilt


def random_pairs(source, least):
    many = source.randrange(least, 3)
    return [(random_term(source, 1, ["x", "y", 0]), random_term(source, 1, ["x", "y", 0])) for _ in range(many)]


class FollowsTest(unittest.TestCase):
    def follows(self, number, *arguments):
        paper = judge_follows(*arguments)
        self.assertEqual(paper, Follows(number))
        self.assertIs(bool(paper), True)
        self.assertTrue(paper.shows(*arguments))

    def against(self, *arguments):
        paper = judge_follows(*arguments)
        self.assertIsInstance(paper, Against)
        self.assertIs(bool(paper), False)
        self.assertTrue(paper.shows(*arguments))
        return paper.ground

    def test_by_equations_alone(self):
        self.follows(None, [(X, "a")], [], [(X, "b")])
        self.follows(None, [], [], [(X, ("f", (X,)))])
        self.follows(None, [("a", "b")], [], [])
        self.follows(None, [("a", "b")], [[]], [(X, X)])
        self.follows(None, [(X, ("f", (Y,)))], [[(X, X)]], [(X, ("f", ("a",))), (Y, "b")])

    def test_by_another_inequation(self):
        self.follows(0, [], [[(X, "a")]], [(X, "a")])
        self.follows(1, [(Z, "a")], [[(X, "b")], [(X, Z)], [(X, "a")]], [(X, "a"), (Y, 1)])
        self.follows(2, [(X, Y)], [[(X, "a")], [(Y, W)], [(X, Y)]], [(Z, 1)])
        self.follows(0, [], [[]], [])
        self.follows(1, [(X, 1)], [[(Y, 1)], [(1, X)]], [])

    def test_against(self):
        ground = self.against([(X, ("f", (Y,)))], [[(Y, "a")]], [(Z, Y)])
        self.assertEqual(list(ground), ["x", "y", "z"])
        self.assertEqual(ground["z"], ground["y"])
        self.assertEqual(ground["x"], ("f", (ground["y"],)))
        self.assertNotEqual(ground["y"], "a")
        self.assertEqual(self.against([], [], []), {})
        self.assertEqual(self.against([], [[("a", "b")]], [("a", "a")]), {})
        self.assertEqual(list(self.against([(("?", 3), "a")], [[(X, "a")]], [(W, ("?", 1))])), [1, 3, "w", "x"])

    def test_two_inequations_together_bar_no_more_than_each(self):
        self.against([], [[(X, "a"), (Y, "b")], [(X, "a"), (Z, "c")]], [(X, "a")])

    def test_random(self):
        source = random.Random(61)
        kinds = {}
        for _ in range(1500):
            equations = random_pairs(source, 0)
            inequations = [random_pairs(source, 1) for _ in range(source.randrange(0, 4))]
            other = random_pairs(source, 1)
            arguments = [equations, inequations, other]
            paper = judge_follows(*arguments)
            self.assertTrue(paper.shows(*arguments))
            kinds[bool(paper), paper.number if paper else None] = True
            rights = [number for number in [None, 0, 1, 2, 3] if Follows(number).shows(*arguments)]
            self.assertEqual(bool(rights), bool(paper))
            if paper:
                self.assertEqual(paper.number, rights[0])
                self.check_values(equations, inequations, other)
        self.assertGreater(len(kinds), 4)

    def check_values(self, equations, inequations, other):
        """What fulfils the given ones fulfils the one that follows, too."""
        values = judge_values(equations, inequations)
        if values:
            standing = names_in(sides_of(other))
            ground = {**{name: 77 for name in standing}, **values.ground}
            self.assertTrue(any(put_in(one, ground) != put_in(two, ground) for one, two in other))

    def test_what_shows_takes(self):
        arguments = [[(X, Y)], [[(X, 1)], [(Y, 1)], [(Z, 1)]], [(Y, 1), (W, 2)]]
        self.follows(0, *arguments)
        self.assertTrue(Follows(1).shows(*arguments))
        for number in (2, 3, -1, None, True, False):
            self.assertFalse(Follows(number).shows(*arguments), number)
        self.assertFalse(Against({"x": 1, "y": 1, "z": 2, "w": 2}).shows(*arguments))
        arguments = [[(X, "a")], [[]], [(X, "b")]]
        self.follows(None, *arguments)
        self.assertFalse(Follows(0).shows(*arguments))
        arguments = [[(X, Y)], [[(X, 1)]], [(Z, 1)]]
        for ground, is_right in (
            ({"x": 2, "y": 2, "z": 1}, True),
            ({"z": 1, "y": ("f", (3,)), "x": ("f", (3,))}, True),
            ({"x": 2, "y": 3, "z": 1}, False),
            ({"x": 1, "y": 1, "z": 1}, False),
            ({"x": 2, "y": 2, "z": 2}, False),
            ({"x": 2, "y": 2}, False),
            ({"x": 2, "y": 2, "z": 1, "w": 1}, False),
            ({"x": W, "y": W, "z": 1}, False),
            ({}, False),
        ):
            self.assertIs(Against(ground).shows(*arguments), is_right, ground)

    def test_equal_to_the_like_alone(self):
        self.assertEqual(Follows(None), Follows(None))
        self.assertNotEqual(Follows(0), Follows(1))
        self.assertNotEqual(Follows(0), NoValues(0, None))
        self.assertNotEqual(Follows(0), 0)
        self.assertEqual(Against({"x": 1, "y": 2}), Against({"y": 2, "x": 1}))
        self.assertNotEqual(Against({"x": 1}), Against({"x": 2}))
        self.assertNotEqual(Against({"x": 1}), Valued({"x": 1}))
        self.assertNotEqual(Against({}), {})

    def test_bad_terms(self):
        right = [[(X, Y)], [[(X, 1)]], [(Z, 1)]]
        for call in (judge_follows, Follows(0).shows, Follows(None).shows, Against({}).shows):
            for place, arguments in (
                (None, [None, [None], None]),
                (1, [[(X, Y), (X, None)], None, None]),
                (0, [[(X, wrapped(20, X))], [3], None]),
                (None, [right[0], 3, None]),
                (1, [right[0], [[], [(X, "A")]], None]),
                (None, right[:2] + [None]),
                (None, right[:2] + [[(X, Y), (X,)]]),
                (None, right[:2] + [[(X, wrapped(20, "a"))]]),
                (None, right[:2] + [{}]),
                (None, right[:2] + [[[X, Y]]]),
            ):
                with self.assertRaises(BadTerm) as caught:
                    call(*arguments)
                self.assertEqual(caught.exception.place, place, arguments)
        self.assertFalse(judge_follows([], (), ((X, wrapped(19, "a")),)))

    def test_arguments_are_not_changed_and_not_kept(self):
        equations, inequations, other = [(X, "a")], [[(Y, X)]], [(Z, Y)]
        paper = judge_follows(equations, inequations, other)
        paper.shows(equations, inequations, other)
        self.assertEqual((equations, inequations, other), ([(X, "a")], [[(Y, X)]], [(Z, Y)]))
        paper.ground["x"] = None
        self.assertEqual(judge_follows(equations, inequations, other).ground["x"], "a")
        ground = {"x": 1}
        kept = Against(ground)
        ground["y"] = 2
        self.assertEqual(kept.ground, {"x": 1})

    def test_spoilt(self):
        arguments = [[(X, ("f", (Y,)))], [[(Y, 1)]], [(Z, Y)]]
        self.assertGreater(check_spoilt(self, judge_follows(*arguments), arguments), 150)
        arguments = [[(X, 1)], [[(Y, 2)], [(Y, 1)]], [(Y, X)]]
        self.assertGreater(check_spoilt(self, judge_follows(*arguments), arguments), 40)
        arguments = [[(X, 1)], [[(Y, 2)], [(Y, 1)]], [(X, 2)]]
        self.assertGreater(check_spoilt(self, judge_follows(*arguments), arguments), 40)


if __name__ == "__main__":
    unittest.main()
