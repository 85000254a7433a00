"""[24]: sets of integers that keep bounds."""

import itertools
import random
import unittest

from proofsizes.errors import TooLarge
from proofsizes.gaps import BadBound, Broken, Placed, judge_bound, judge_gaps
from proofsizes.gapsets import Beside, Within, count_places, judge_same_bounds, judge_within, least_bounds
from proofsizes.gapsets import needless_bounds, without_name
from tests.spoiling import check_spoilt
from tests.test_gaps import NO_ROWS, keeps, kept_rows, random_bounds

BOX = [("x", None, 9), (None, "x", 0), ("y", None, 9), (None, "y", 0)]


class WithinTest(unittest.TestCase):
    def within(self, bounds, lots):
        paper = judge_within(bounds, lots)
        self.assertEqual(paper, Within())
        self.assertIs(bool(paper), True)
        self.assertIs(paper.shows(bounds, lots), True)

    def beside(self, bounds, lots):
        paper = judge_within(bounds, lots)
        self.assertIsInstance(paper, Beside)
        self.assertIs(bool(paper), False)
        self.assertIs(paper.shows(bounds, lots), True)
        self.assertIs(Within().shows(bounds, lots), False)
        return paper.places

    def test_by_several_together(self):
        self.within([], [[("x", "y", 0)], [("y", "x", -1)]])
        self.beside([], [[("x", "y", 0)], [("y", "x", -2)]])
        thirds = [[("x", None, 2)], [("x", None, 6), (None, "x", -3)], [(None, "x", -7), ("y", None, 9)]]
        self.within(BOX, thirds)
        for left in range(3):
            self.beside(BOX, thirds[:left] + thirds[left + 1:])
        self.beside(BOX[:2], thirds)

    def test_names_that_stand_anywhere(self):
        places = self.beside([("x", None, 3)], [[("y", "z", 0), ("x", None, 3)], [(None, "w", 0)]])
        self.assertEqual(sorted(places), ["w", "x", "y", "z"])
        self.assertEqual(self.beside([], []), {})

    def test_rows_without_bounds(self):
        self.within([("x", "y", 0)], [[]])
        self.within([], [[("x", "y", 0)], []])
        self.within([], [[]])
        self.beside([("x", "y", 0)], [])

    def test_nothing_keeps_the_bounds(self):
        self.within([("x", "y", 0), ("y", "x", -1)], [])
        self.within([("x", "y", 0), ("y", "x", -1)], [[("x", "z", 4)]])

    def test_random(self):
        source = random.Random(113)
        kinds = {True: 0, False: 0}
        for _ in range(400):
            bounds = random_bounds(source, "xy", 3, 2) + [("x", None, 2), (None, "x", 2), ("y", None, 2), (None, "y", 2)]
            lots = [random_bounds(source, "xy", 3, 1) for _ in range(source.randrange(0, 6))]
            paper = judge_within(bounds, lots)
            kinds[bool(paper)] += 1
            self.assertTrue(paper.shows(bounds, lots))
            rows = list(kept_rows(bounds, "xy", 3))
            self.assertIs(bool(paper), all(any(keeps(lot, places) for lot in lots) for places in rows))
        self.assertGreater(min(kinds.values()), 50)

    def test_what_beside_shows(self):
        bounds, lots = [("x", None, 5)], [[("x", "y", 0), ("y", None, 9)], [("y", None, 0)]]
        for places, is_right in (
            ({"x": 5, "y": 4}, True),
            ({"x": 5, "y": 10}, True),
            ({"x": 5, "y": 5}, False),
            ({"x": 5, "y": 0}, False),
            ({"x": 6, "y": 4}, False),
            ({"x": 5}, False),
            ({"x": 5, "y": 4, "z": 0}, False),
            ({}, False),
        ):
            self.assertIs(Beside(places).shows(bounds, lots), is_right, places)

    def test_too_large(self):
        calls = (judge_within, Within().shows, Beside({}).shows, Beside({"x": None}).shows)
        for lots, number in (
            ([[("x", "y", 0)]] * 61, 61),
            ([[]] * 61, 61),
            ([[("x", "y", 0)] * 9] * 61, 61),
            ([[("x", "y", 0)] * 2] * 13, 8192),
            ([[("x", "y", 0)] * 17, [], [("x", None, 0)] * 241], 4097),
            ([[("x", "y", 0)] * 4097, []], 4097),
        ):
            for call in calls:
                for bounds in ([], [("x", "y", 0), ("y", "x", -1)]):
                    with self.assertRaises(TooLarge) as caught:
                        call(bounds, lots)
                    self.assertEqual(caught.exception.number, number)

    def test_sixty_rows_and_4096_ways(self):
        self.within([("x", "y", 0)], [[("x", "y", 0)]] * 60)
        self.within([], [[("x", None, at), (None, "x", -at)] for at in range(12)] + [[("x", None, -1)], [(None, "x", -12)]])
        self.beside([], [[("x", None, at), (None, "x", -at)] for at in range(12)] + [[("x", None, -1)], [(None, "x", -13)]])
        many = [[("x", "n" + str(at), 0), ("n" + str(at), "x", 0)] for at in range(12)]
        single = [[("m" + str(at), "x", 0)] for at in range(48)]
        places = self.beside([], many + single)
        self.assertEqual(len(places), 61)
        self.within([("y", "z", 1)], many + [[("y", "z", 1)]])

    def test_equal_to_the_like_alone(self):
        self.assertEqual(Within(), Within())
        self.assertNotEqual(Within(), Beside({}))
        self.assertNotEqual(Within(), True)
        self.assertEqual(Beside({"x": 1, "y": 2}), Beside({"y": 2, "x": 1}))
        self.assertNotEqual(Beside({"x": 1}), Beside({"x": 2}))
        self.assertNotEqual(Beside({"x": 1}), Placed({"x": 1}))
        self.assertNotEqual(Beside({"x": 1}), {"x": 1})

    def test_bad_bounds(self):
        right = [("x", "y", 0)]
        for call in (judge_within, Within().shows, Beside({}).shows):
            for bounds, number in NO_ROWS:
                for arguments in ((bounds, None), (bounds, [[]] * 61), (right, [right, [], bounds, None])):
                    with self.assertRaises(BadBound, msg=arguments) as caught:
                        call(*arguments)
                    self.assertEqual(caught.exception.number, number)
            for lots in (None, 3, {}, "a"):
                with self.assertRaises(BadBound) as caught:
                    call(right, lots)
                self.assertIsNone(caught.exception.number)
            with self.assertRaises(BadBound) as caught:
                call(right, right)
            self.assertEqual(caught.exception.number, 0)

    def test_arguments_are_not_changed_and_not_kept(self):
        bounds, lots = [("x", "y", 0)], [[("x", "y", -3)], [("y", None, 4), ("x", None, 1)]]
        paper = judge_within(bounds, lots)
        paper.shows(bounds, lots)
        self.assertEqual((bounds, lots), ([("x", "y", 0)], [[("x", "y", -3)], [("y", None, 4), ("x", None, 1)]]))
        paper.places["x"] = None
        self.assertTrue(judge_within(bounds, lots).shows(bounds, lots))
        places = {"x": 1}
        kept = Beside(places)
        places["x"] = 2
        self.assertEqual(kept.places, {"x": 1})

    def test_spoilt(self):
        bounds, lots = [("x", "y", 0)], [[("x", "y", -3)], [("y", None, 4), ("x", None, 1)]]
        self.assertGreater(check_spoilt(self, judge_within(bounds, lots), [bounds, lots]), 150)
        self.assertFalse(Beside({"x": True}).shows([], [[("x", None, 0)]]))


class SameTest(unittest.TestCase):
    def test_the_same(self):
        one = [("x", "y", 1), ("y", "z", 1)]
        self.assertIs(judge_same_bounds(one, one + [("x", "z", 2)]), True)
        self.assertIs(judge_same_bounds(one + [("x", "z", 5), ("x", "y", 1)], one[::-1]), True)
        self.assertIs(judge_same_bounds(one, one + [("x", "z", 1)]), False)
        self.assertIs(judge_same_bounds(one + [("x", "z", 1)], one), False)
        self.assertIs(judge_same_bounds([], []), True)
        self.assertIs(judge_same_bounds([], [("x", "y", 10 ** 9)]), False)

    def test_nothing_keeps_them(self):
        none, other = [("x", "y", 0), ("y", "x", -1)], [("a", None, 0), (None, "a", -1), ("b", "c", 0)]
        self.assertIs(judge_same_bounds(none, other), True)
        self.assertIs(judge_same_bounds(none, none[:1]), False)
        self.assertIs(judge_same_bounds(none[:1], none), False)
        self.assertIs(judge_same_bounds([], none), False)

    def test_random(self):
        source = random.Random(127)
        kinds = {True: 0, False: 0}
        box = [("x", None, 2), (None, "x", 2), ("y", None, 2), (None, "y", 2)]
        for _ in range(400):
            one = box + random_bounds(source, "xy", 3, 3)
            other = random_bounds(source, "xy", 3, 3) + box
            same = list(kept_rows(one, "xy", 3)) == list(kept_rows(other, "xy", 3))
            self.assertIs(judge_same_bounds(one, other), same)
            kinds[same] += 1
        self.assertGreater(min(kinds.values()), 50)


class WithoutTest(unittest.TestCase):
    def test_without_a_name(self):
        self.assertEqual(without_name([("x", "y", 1), ("y", "z", 2)], "y"), [("x", "z", 3)])
        self.assertEqual(without_name([("x", "y", 1)], "y"), [])
        self.assertEqual(without_name([], "y"), [])
        self.assertTrue(judge_same_bounds(without_name([("x", "y", 1), ("x", None, 0)], "z"), [("x", "y", 1), ("x", None, 0)]))
        self.assertIsNone(without_name([("x", "y", 1), ("y", "x", -2)], "y"))
        self.assertIsNone(without_name([("x", "y", 1), ("y", "x", -2)], "z"))
        self.assertEqual(without_name([("x", "y", 1), ("y", "x", -1)], "y"), [])
        self.assertEqual(without_name([("x", None, 1), (None, "x", 1)], "x"), [])

    def test_random(self):
        source = random.Random(131)
        for _ in range(200):
            bounds = random_bounds(source, "xyz", 6, 2)
            left = without_name(bounds, "y")
            self.assertEqual(left is None, not judge_gaps(bounds))
            if left is not None:
                self.assertFalse([bound for bound in left if "y" in bound])
                for x, z in itertools.product(range(-3, 4), repeat=2):
                    is_kept = any(keeps(bounds, {"x": x, "y": y, "z": z}) for y in range(-9, 10))
                    self.assertIs(keeps(left, {"x": x, "z": z}), is_kept, (bounds, x, z))

    def test_needless_bounds(self):
        bounds = [("x", "y", 1), ("y", "z", 1), ("x", "z", 2), ("x", "y", 1), ("x", "z", 3)]
        self.assertEqual(needless_bounds(bounds), (0, 2, 3, 4))
        self.assertEqual(needless_bounds([]), ())
        self.assertEqual(needless_bounds([("x", "y", 0)]), ())
        none = [("x", "y", 0), ("y", "x", -1), ("a", "b", 0)]
        self.assertEqual(needless_bounds(none), (2,))
        self.assertEqual(needless_bounds(none + none), (0, 1, 2, 3, 4, 5))
        self.assertIsInstance(needless_bounds(tuple(bounds)), tuple)

    def test_least_bounds(self):
        bounds = [("x", "y", 1), ("y", "z", 1), ("x", "z", 2), ("x", "y", 1), ("x", "z", 3)]
        self.assertEqual(sorted(least_bounds(bounds)), [("x", "y", 1), ("y", "z", 1)])
        self.assertEqual(least_bounds([]), [])
        self.assertEqual(len(least_bounds([("x", "y", 0), ("y", "x", -1), ("a", "b", 0)])), 2)

    def test_random_needless(self):
        source = random.Random(137)
        some = 0
        for _ in range(200):
            bounds = random_bounds(source, "xyz", 8, 2)
            needless = needless_bounds(bounds)
            some += len(needless)
            for number in range(len(bounds)):
                others = bounds[:number] + bounds[number + 1:]
                self.assertIs(number in needless, judge_same_bounds(bounds, others))
            least = least_bounds(bounds)
            self.assertTrue(judge_same_bounds(bounds, least))
            self.assertEqual(needless_bounds(least), ())
            left = list(bounds)
            for bound in least:
                left.remove(bound)
        self.assertGreater(some, 100)

    def test_wrong(self):
        for bounds, number in NO_ROWS:
            calls = [needless_bounds, least_bounds, lambda rows: judge_same_bounds(rows, None), lambda rows: without_name(rows, 3),
                     lambda rows: judge_same_bounds([("x", "y", 1)], rows), lambda rows: count_places(rows, 3)]
            for call in calls:
                with self.assertRaises(BadBound, msg=bounds) as caught:
                    call(bounds)
                self.assertEqual(caught.exception.number, number)
        for name in (None, 3, "X", "", "ninesigns", True, ("x",)):
            with self.assertRaises(BadBound) as caught:
                without_name([("x", "y", 1)], name)
            self.assertIsNone(caught.exception.number)

    def test_lists_are_new_and_arguments_unchanged(self):
        bounds = [("x", "y", 1), ("x", "y", 2)]
        for call in (least_bounds, lambda rows: without_name(rows, "z")):
            call(bounds).append(None)
            self.assertEqual(bounds, [("x", "y", 1), ("x", "y", 2)])
            self.assertNotIn(None, call(bounds))


class CountTest(unittest.TestCase):
    def test_boxes_and_chains(self):
        self.assertEqual(count_places(BOX, 100), 100)
        self.assertIsNone(count_places(BOX, 99))
        self.assertEqual(count_places(BOX + [("x", "y", -1)], 1000), 45)
        self.assertEqual(count_places(BOX + [("x", "y", 0), ("y", "x", 0)], 1000), 10)
        self.assertEqual(count_places([("x", None, 3), (None, "x", -3)], 1), 1)

    def test_none_and_no_names(self):
        self.assertEqual(count_places([], 1), 1)
        self.assertIsNone(count_places([], 0))
        self.assertEqual(count_places(BOX + [("x", None, -1)], 5), 0)
        self.assertEqual(count_places(BOX + [("x", None, -1)], 0), 0)
        self.assertEqual(count_places([("x", "y", 0), ("y", "x", -1)], 5), 0)

    def test_endless_many(self):
        for bounds in ([("x", None, 3)], [(None, "x", 3)], [("x", "y", 0), ("y", "x", 0)], BOX + [("x", "z", 0)],
                       BOX + [("z", "x", 0)]):
            self.assertIsNone(count_places(bounds, 10 ** 9))

    def test_many(self):
        wide = [("x", None, 10 ** 12), (None, "x", 0)]
        self.assertEqual(count_places(wide, 10 ** 13), 10 ** 12 + 1)
        self.assertIsNone(count_places(wide + [("y", "x", 5), ("x", "y", 5)], 10 ** 3))
        self.assertEqual(count_places(BOX + [("z", None, 99), (None, "z", 0)], 10 ** 5), 10 ** 4)
        chain = [("n0", None, 50), (None, "n0", 0)]
        for at in range(4):
            chain += [("n" + str(at + 1), "n" + str(at), 0), (None, "n" + str(at + 1), 0)]
        self.assertEqual(count_places(chain, 10 ** 8), 55 * 54 * 53 * 52 * 51 // 120)

    def test_random(self):
        source = random.Random(139)
        for _ in range(200):
            bounds = random_bounds(source, "xyz", 4, 2)
            for name in "xyz":
                bounds += [(name, None, source.randrange(0, 3)), (None, name, source.randrange(0, 3))]
            many = len(list(kept_rows(bounds, "xyz", 3)))
            self.assertEqual(count_places(bounds, many), many)
            self.assertEqual(count_places(bounds, 1000), many)
            if many:
                self.assertIsNone(count_places(bounds, many - 1))

    def test_random_with_more_names(self):
        source = random.Random(151)
        names = ["a", "b", "c", "d", "e"]
        for _ in range(120):
            bounds = random_bounds(source, names, 7, 2)
            for name in names:
                bounds += [(name, None, source.randrange(0, 3)), (None, name, source.randrange(-1, 2))]
            source.shuffle(bounds)
            many = len(list(kept_rows(bounds, names, 2)))
            for most in (many, many + 1, 5000):
                self.assertEqual(count_places(bounds, most), many)
            if many:
                self.assertIsNone(count_places(bounds, many - 1))
                self.assertIsNone(count_places(bounds, -1))

    def test_wide_and_narrow_names(self):
        wide = [("x", None, 10 ** 9), (None, "x", 0)]
        for name in ("y", "z"):
            wide += [(name, None, 5), (None, name, 0), (name, "x", 0)]
        self.assertEqual(count_places(wide, 10 ** 12), 36 * (10 ** 9 + 1) - sum(max(one, other) for one in range(6) for other in range(6)))
        narrow, star = [("x", None, 5), (None, "x", 0)], [("x", None, 10 ** 9), (None, "x", 0)]
        for at in range(20):
            name = "l" + str(at)
            narrow += [(name, None, 10 ** 9), (None, name, 0), ("x", name, 0)]
            star += [(name, None, 5), (None, name, 0), (name, "x", 0)]
        self.assertEqual(count_places(narrow, 10 ** 200), sum((10 ** 9 + 1 - worth) ** 20 for worth in range(6)))
        greatest = [(worth + 1) ** 20 - worth ** 20 for worth in range(6)]
        self.assertEqual(count_places(star, 10 ** 200), sum(many * (10 ** 9 + 1 - worth) for worth, many in enumerate(greatest)))

    def test_a_thousand_names(self):
        names = ["n" + str(number) for number in range(1000)]
        none = [bound for name in names for bound in ((name, None, 0), (None, name, 0))]
        chain = [(one, other, 0) for one, other in zip(names, names[1:])]
        ends = [(names[-1], None, 1), (None, names[0], 0)]
        self.assertEqual(count_places(none, 1), 1)
        self.assertEqual(count_places(none + chain, 1), 1)
        self.assertEqual(count_places(chain[:200] + [(names[200], None, 1), (None, names[0], 0)], 10 ** 6), 202)
        for bounds in (chain + ends, chain[::-1] + ends):
            self.assertIsNone(count_places(bounds, 20))
        self.assertIsNone(count_places([(name, None, 1) for name in names] + none[1::2], 10 ** 300))
        self.assertEqual(count_places([(name, None, 1) for name in names] + none[1::2], 2 ** 1000), 2 ** 1000)
        self.assertEqual(count_places(none + [(names[5], None, -1)], 1), 0)


class TogetherTest(unittest.TestCase):
    def test_one_row_within_is_what_follows(self):
        source = random.Random(149)
        for _ in range(200):
            bounds, (bound,) = random_bounds(source, "xyz", 5), random_bounds(source, "xyz", 9)[:1] or [("x", "y", 1)]
            follows = not isinstance(judge_bound(bounds, bound), Broken)
            self.assertIs(bool(judge_within(bounds, [[bound]])), follows)


if __name__ == "__main__":
    unittest.main()
