"""[43]: terms with unknowns against sets."""

import itertools
import random
import unittest

from proofsizes.errors import BadTerm, TooLarge
from proofsizes.patterns import AllIn, NotIn, instances_set, judge_pattern, some_in
from proofsizes.regular import TermSet, both, judge_sets, others, relation_set
from proofsizes.searching import Spent
from proofsizes.terms import is_ground_term, names_in
from tests.plain import matched, put_in
from tests.samples import X, Y, Z, random_term, wrapped
from tests.shallows import ALL_ROWS, ALL_TERMS, EVEN, random_set
from tests.spoiling import check_spoilt

EVENS, ODDS, NATS = [relation_set(EVEN, name) for name in ("even", "odd", "nat")]
ALL = TermSet(1, {}, {}, 0, (0,))
PATTERNS = [X, "a", 0, ("f", (X,)), ("g", (X, Y)), ("g", (X, X)), ("g", (("f", (X,)), Y)), ("g", (("f", (X,)), X)), ("f", (("f", (("f", (X,)),)),)), ("h", (X,)),
            ("g", ("a", ("g", (X, ("f", ("b",)))))), ("f", ("a",)), ("g", (("g", (X, Y)), ("g", (Y, X)))), ("g", (("h", (X,)), X))]
NO_TERMS = [None, True, "Abc", "", ("f", ()), ("f", ["a"]), ["a"], ("?", -1), ("?", None), wrapped(20, X), ("f", (None,))]
SMALL = [term for row in ALL_ROWS[:4] for term in row]


class JudgeTest(unittest.TestCase):
    def all_in(self, one, pattern):
        paper = judge_pattern(one, pattern)
        self.assertEqual(paper, AllIn())
        self.assertIs(bool(paper), True)
        self.assertIs(paper.shows(one, pattern), True)

    def not_in(self, one, pattern):
        paper = judge_pattern(one, pattern)
        self.assertIsInstance(paper, NotIn)
        self.assertIs(bool(paper), False)
        self.assertIs(paper.shows(one, pattern), True)
        self.assertIs(AllIn().shows(one, pattern), False)
        self.assertIs(one.has(put_in(pattern, paper.terms)), False)
        return paper.terms

    def test_by_hand(self):
        self.assertEqual(self.not_in(NATS, wrapped(1, X)), {"x": 1})
        self.assertEqual(some_in(EVENS, wrapped(3, X)), {"x": wrapped(1, 0)})
        self.assertIsNone(some_in(EVENS, ("t", (X,))))
        self.all_in(others(EVENS), ("t", (X, Y)))
        self.all_in(ALL, X)
        self.all_in(EVENS, wrapped(2, 0))
        self.assertEqual(self.not_in(EVENS, wrapped(3, 0)), {})
        self.assertEqual(some_in(EVENS, wrapped(4, 0)), {})
        self.assertIsNone(some_in(EVENS, "a"))

    def test_an_unknown_twice(self):
        # Pairs of whose parts just one is even.
        table = {(one, other): 3 if (one == 1) != (other == 1) else 0 for one, other in itertools.product(range(4), repeat=2)}
        one = TermSet(4, {0: 1}, {("s", 1): {(0,): 0, (1,): 2, (2,): 1, (3,): 0}, ("g", 2): table}, 0, [3])
        self.assertIsNone(some_in(one, ("g", (X, X))))
        self.all_in(others(one), ("g", (X, X)))
        self.assertIsNotNone(some_in(one, ("g", (X, Y))))
        self.assertIsNone(some_in(one, ("g", (X, wrapped(2, X)))))
        self.assertIsNotNone(some_in(one, ("g", (X, wrapped(1, X)))))

    def test_order_of_unknowns(self):
        names = ["x", 10, 9, "b", 2]
        pattern = ("f", tuple(("?", name) for name in names))
        self.assertEqual(list(self.not_in(NATS, pattern)), [10, 2, 9, "b", "x"])
        self.assertEqual(list(some_in(ALL, pattern)), [10, 2, 9, "b", "x"])

    def test_random(self):
        source = random.Random(829)
        kinds = {"all": 0, "some": 0, "none": 0}
        for at in range(300):
            one = random_set(source)
            pattern = source.choice(PATTERNS) if at % 2 else random_term(source, 3, ["x", "y"])
            names = names_in([pattern])
            paper, worth = judge_pattern(one, pattern), some_in(one, pattern)
            self.assertIs(paper.shows(one, pattern), True)
            ways = [put_in(pattern, dict(zip(names, row))) for row in itertools.islice(itertools.product(SMALL, repeat=len(names)), 900)]
            inside = [one.has(term) for term in ways]
            if worth is None:
                self.assertFalse(any(inside))
                kinds["none"] += 1
            else:
                self.assertEqual(list(worth), sorted(names, key=str))
                self.assertTrue(all(is_ground_term(worth[name]) for name in worth))
                self.assertIs(one.has(put_in(pattern, worth)), True)
                kinds["some" if not paper else "all"] += 1
            if paper:
                self.all_in(one, pattern)
                self.assertTrue(all(inside))
            else:
                self.not_in(one, pattern)
        self.assertGreater(min(kinds.values()), 40)

    def test_equal(self):
        self.assertEqual(AllIn(), AllIn())
        self.assertEqual(NotIn({"x": "a"}), NotIn({"x": "a"}))
        for other in (NotIn({}), NotIn({"x": "b"}), AllIn(), Spent(0), None, {"x": "a"}):
            self.assertNotEqual(NotIn({"x": "a"}), other)
        for other in (NotIn({}), Spent(0), None, True):
            self.assertNotEqual(AllIn(), other)

    def test_wrong_papers(self):
        pattern = ("g", (X, ("?", 3)))
        one = others(TermSet(2, {}, {("g", 2): {row: 1 if row == (1, 1) else 0 for row in itertools.product(range(2), repeat=2)}}, 1, [1]))
        self.assertIs(NotIn({"x": "a", 3: "b"}).shows(one, pattern), True)
        self.assertIs(NotIn({3: wrapped(150, 0), "x": "b"}).shows(one, pattern), True)
        for terms in ({}, {"x": "a"}, {"x": "a", 3: ("g", ("a", ("g", ("a", "b"))))[1][0], 4: "a"}, {"x": X, 3: "a"}, {"x": "a", 3: None}, None, (), {"x": "a", True: "b"}):
            self.assertIs(NotIn(terms).shows(one, pattern), False, terms)
        bad = ("g", ("a", ("g", ("g", "a"))))
        self.assertIs(NotIn({"x": "a", 3: bad}).shows(NATS, pattern), True)
        self.assertIs(NotIn({"x": 0}).shows(NATS, wrapped(1, X)), False)
        self.assertIs(NotIn({"x": "a"}).shows(NATS, wrapped(1, X)), True)

    def test_spoilt(self):
        pattern = ("g", (X, wrapped(1, ("?", 3))))
        self.assertGreater(check_spoilt(self, NotIn({"x": "a", 3: wrapped(1, 0)}), (NATS, pattern)), 100)
        check_spoilt(self, AllIn(), (ALL, pattern))

    def test_dicts_are_new(self):
        terms = {"x": "a"}
        paper = NotIn(terms)
        terms["y"] = "b"
        self.assertEqual(paper, NotIn({"x": "a"}))
        some_in(ALL, X)["y"] = "a"
        self.assertEqual(some_in(ALL, X), {"x": 0})


class InstancesTest(unittest.TestCase):
    def test_by_hand(self):
        self.assertEqual(instances_set(X), ALL)
        self.assertTrue(judge_sets(instances_set("a"), TermSet(2, {"a": 1}, {}, 0, [1])))
        self.assertTrue(judge_sets(instances_set(("f", (X,))), TermSet(2, {}, {("f", 1): {(0,): 1, (1,): 1}}, 0, [1])))
        self.assertTrue(judge_sets(both(instances_set(("g", (X, "a"))), instances_set(("g", ("b", X)))), instances_set(("g", ("b", "a")))))

    def test_parts_that_overlap(self):
        pattern = ("g", (("f", (X,)), ("g", (("f", ("a",)), ("f", (("f", (Y,)),))))))
        one = instances_set(pattern)
        for term in ALL_TERMS[::7] + [put_in(pattern, {"x": "a", "y": "b"}), put_in(pattern, {"x": ("f", ("a",)), "y": ("f", ("a",))})]:
            self.assertIs(one.has(term), matched([pattern], [term], {}) is not None)

    def test_random(self):
        source = random.Random(839)
        for _ in range(150):
            pattern = random_term(source, 3, [0, 1, 2, 3, 4, 5, 6])
            names = names_in([pattern])
            if len(names) < str(pattern).count("?"):
                with self.assertRaises(BadTerm):
                    instances_set(pattern)
                continue
            one = instances_set(pattern)
            for term in source.sample(ALL_TERMS, 40) + [put_in(pattern, {name: source.choice(SMALL) for name in names}) for _ in range(5)]:
                self.assertIs(one.has(term), matched([pattern], [term], {}) is not None)
            self.assertEqual(judge_pattern(one, pattern), AllIn())

    def test_sets_within(self):
        source = random.Random(853)
        for _ in range(80):
            one, pattern = random_set(source, 3), source.choice([one for one in PATTERNS if str(one).count("?") == len(names_in([one]))])
            inside = both(instances_set(pattern), others(one))
            self.assertEqual(bool(judge_pattern(one, pattern)), bool(judge_sets(inside, TermSet(1, {}, {}, 0, ()))))


class WrongTest(unittest.TestCase):
    def bad(self, call, *arguments):
        with self.assertRaises(BadTerm, msg=arguments) as caught:
            call(*arguments)
        self.assertIsNone(caught.exception.place)

    def large(self, number, call, *arguments):
        with self.assertRaises(TooLarge) as caught:
            call(*arguments)
        self.assertEqual(caught.exception.number, number)

    def test_no_terms(self):
        for term in NO_TERMS:
            for call in (judge_pattern, some_in, AllIn().shows, NotIn({"x": "a"}).shows, NotIn(None).shows):
                self.bad(call, NATS, term)
            self.bad(instances_set, term)
        for term in (("f", (X, X)), ("f", (("?", 0), ("g", (Y, ("?", 0)))))):
            self.bad(instances_set, term)

    def test_20000_ways_and_more(self):
        for many, unknowns, let in ((11, 4, True), (12, 4, False), (2, 14, True), (2, 15, False), (1, 60, True), (5, 6, True), (5, 7, False)):
            one = TermSet(many, {at: at for at in range(many)}, {}, 0, [0])
            pattern = ("f", tuple(("?", at) for at in range(unknowns)) + (("?", 0),))
            for call in (judge_pattern, some_in, AllIn().shows):
                if let:
                    self.assertIsNotNone(call(one, pattern))
                else:
                    self.large(many ** unknowns, call, one, pattern)
        self.assertTrue(judge_pattern(TermSet(16, {}, {}, 7, [7]), ("f", tuple(("?", at) for at in range(9)))))

    def test_states_that_no_ground_term_has(self):
        one = TermSet(16, {"a": 1}, {("f", 1): {(at,): max(at, 1) for at in range(16)}}, 0, [0, 1])
        self.assertTrue(judge_pattern(one, ("f", (X,))))
        self.assertTrue(judge_pattern(one, ("t", (X, ("f", (Y,)), Z, ("?", 1), ("?", 2)))))

    def test_too_many_states_of_instances(self):
        self.assertEqual(instances_set(wrapped(15, X)).many, 16)
        self.large(17, instances_set, wrapped(16, X))
        self.large(20, instances_set, wrapped(19, X))
        self.assertEqual(len(instances_set(("f", tuple(("?", at) for at in range(12)))).compounds["f", 12]), 2 ** 12)
        self.large(2 ** 13, instances_set, ("f", tuple(("?", at) for at in range(13))))
        self.large(502, instances_set, ("f", tuple(range(500))))


if __name__ == "__main__":
    unittest.main()
