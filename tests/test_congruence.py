"""[25]: equal ground terms."""

import itertools
import random
import unittest

from proofsizes.congruence import Apart, Equal, are_endless, classes_of, equal_terms, judge_equal, least_equal
from proofsizes.errors import BadTerm, TooLarge
from proofsizes.terms import is_compound, parts_of
from tests.plain import terms_key
from tests.samples import X, wrapped
from tests.spoiling import check_spoilt

FIVE = [(wrapped(5, "a"), "a"), (wrapped(3, "a"), "a")]


def ground_term(source, depth, constants="ab"):
    if depth == 0 or source.random() < 0.4:
        return source.choice(list(constants))
    if source.random() < 0.5:
        return ("f", (ground_term(source, depth - 1, constants),))
    return ("g", (ground_term(source, depth - 1, constants), ground_term(source, depth - 1, constants)))


def signs_of(term):
    return len(parts_of(term))


def all_terms(signs, constants="abc"):
    """All ground terms of f, g and some constants with so many signs."""
    if signs == 1:
        return list(constants)
    found = [("f", (part,)) for part in all_terms(signs - 1, constants)]
    for first in range(1, signs - 1):
        for one, other in itertools.product(all_terms(first, constants), all_terms(signs - 1 - first, constants)):
            found.append(("g", (one, other)))
    return found


def naive_classes(equations, terms):
    """Numbers of classes of all terms that stand in some, by merging again and again."""
    standing = []
    for term in [side for pair in equations for side in pair] + list(terms):
        for part in parts_of(term):
            if part not in standing:
                standing.append(part)
    number = list(range(len(standing)))

    def merge(one, other):
        one, other = number[standing.index(one)], number[standing.index(other)]
        number[:] = [one if each == other else each for each in number]
        return one != other

    for one, other in equations:
        merge(one, other)
    is_new = True
    while is_new:
        is_new = False
        for one, other in itertools.combinations(standing, 2):
            if is_compound(one) and is_compound(other) and one[0] == other[0] and len(one[1]) == len(other[1]):
                pairs = zip(one[1], other[1])
                if all(number[standing.index(a)] == number[standing.index(b)] for a, b in pairs):
                    is_new = merge(one, other) or is_new
    return {repr(term): each for term, each in zip(standing, number)}


class JudgeEqualTest(unittest.TestCase):
    def equal(self, equations, pair):
        paper = judge_equal(equations, pair)
        self.assertIsInstance(paper, Equal)
        self.assertIs(bool(paper), True)
        self.assertIsInstance(paper.steps, tuple)
        self.assertIs(paper.shows(equations, pair), True)
        return paper.steps

    def apart(self, equations, pair):
        paper = judge_equal(equations, pair)
        self.assertIsInstance(paper, Apart)
        self.assertIs(bool(paper), False)
        self.assertIs(paper.shows(equations, pair), True)
        return paper

    def test_steps_of_all_kinds(self):
        self.assertEqual(self.equal([], ("a", "a")), (("same", "a"),))
        self.assertEqual(self.equal([("b", 3), ("a", "b")], ("a", "b")), (("given", 1),))
        self.assertEqual(self.equal([("a", "b")], ("b", "a")), (("given", 0), ("turned", 0)))
        self.assertEqual(self.equal([("a", "b"), ("b", "c")], ("a", "c"))[-1][0], "joined")
        steps = self.equal([("a", "b")], (("g", ("a", 1)), ("g", ("b", 1))))
        self.assertEqual(steps, (("given", 0), ("same", 1), ("inside", "g", (0, 1))))
        self.assertEqual({step[0] for step in self.equal(FIVE, (wrapped(1, "a"), "a"))},
                         {"given", "turned", "joined", "inside"})

    def test_unlike_constants_may_be_the_same(self):
        self.equal([("a", "b"), (1, "a")], ("b", 1))
        self.equal([("a", ("f", ("a",)))], (wrapped(9, "a", "f"), "a"))
        self.equal([("a", ("f", ("b",))), ("b", ("f", ("a",))), ("a", "b")], (wrapped(4, "a", "f"), "b"))

    def test_parts_of_equal_compounds_may_be_apart(self):
        self.apart([(("f", ("a",)), ("f", ("b",)))], ("a", "b"))
        self.apart([(("f", ("a",)), "b")], ("a", "b"))
        self.apart([], ("a", "b"))
        self.apart([], (1, 2))
        self.apart([("a", "b")], (("f", ("a",)), ("f", ("b", "b"))))
        self.apart([("a", "b")], (("f", ("a",)), ("h", ("b",))))
        self.apart([("a", "b")], (("f", ("a",)), "a"))

    def test_states(self):
        paper = self.apart([("a", ("f", ("b",))), ("c", "a")], ("b", "c"))
        for one, other in (("a", ("f", ("b",))), ("a", "c"), (("f", ("a",)), ("f", ("c",)))):
            self.assertEqual(paper.state(one), paper.state(other))
        self.assertNotEqual(paper.state("b"), paper.state("c"))
        self.assertEqual(paper.state("elsewhere"), paper.beyond)
        self.assertEqual(paper.state(("h", ("a", 1))), paper.beyond)
        mine = Apart({"a": 0, "b": 1}, {("f", (0,)): 1, ("f", (1,)): 0, ("g", (0, 1)): 5}, 7)
        self.assertEqual(mine.state(wrapped(7, "a", "f")), 1)
        self.assertEqual(mine.state(("g", ("a", ("f", ("a",))))), 5)
        self.assertEqual(mine.state(("f", ("c",))), 7)
        self.assertEqual(mine.state(3), 7)
        self.assertEqual(mine.state(wrapped(150, "b", "f")), 1)

    def test_the_steps_lead_round_all_numbers(self):
        self.equal(FIVE, ("a", wrapped(4, "a")))
        self.apart(FIVE[:1], ("a", wrapped(4, "a")))
        self.equal([(wrapped(15, "a"), "a"), (wrapped(10, "a"), "a")], (wrapped(5, "a"), "a"))
        self.apart([(wrapped(15, "a"), "a"), (wrapped(10, "a"), "a")], (wrapped(4, "a"), "a"))
        self.equal([(at, at + 1) for at in range(150)], (150, 0))

    def test_random(self):
        source = random.Random(167)
        kinds = {True: 0, False: 0}
        for _ in range(1000):
            equations = [(ground_term(source, 1, "abc"), ground_term(source, 2, "abc")) for _ in range(source.randrange(0, 7))]
            pair = (ground_term(source, 2, "abc"), ground_term(source, 2, "abc"))
            paper = judge_equal(equations, pair)
            kinds[bool(paper)] += 1
            self.assertTrue(paper.shows(equations, pair))
            numbers = naive_classes(equations, pair)
            self.assertIs(bool(paper), numbers[repr(pair[0])] == numbers[repr(pair[1])])
        self.assertGreater(min(kinds.values()), 100)

    def test_what_equal_shows(self):
        equations = [("a", "b"), ("c", "b"), (("f", ("a",)), "c")]
        for steps, pair, is_right in (
            ([("given", 0)], ("a", "b"), True),
            ([("given", 0)], ("b", "a"), False),
            ([("given", 1), ("given", 0)], ("a", "b"), True),
            ([("given", 0), ("given", 1)], ("a", "b"), False),
            ([("given", 0), ("given", 1), ("turned", 1), ("joined", 0, 2)], ("a", "c"), True),
            ([("given", 0), ("given", 1), ("joined", 0, 1)], ("a", "b"), False),
            ([("same", wrapped(30, 1))], ("a", "a"), False),
            ([("same", X)], (("f", ("a",)), "a"), False),
            ([("same", ("f", ("a",)))], (("f", ("a",)), ("f", ("a",))), True),
            ([("given", 0), ("inside", "h", (0, 0))], (("h", ("a", "a")), ("h", ("b", "b"))), True),
            ([("given", 0), ("inside", "h", [0, 0])], (("h", ("a", "a")), ("h", ("b", "b"))), False),
            ([("given", 0), ("inside", "h", ())], ("a", "b"), False),
            ([("given", 0), ("inside", "h", (1,))], (("h", ("a",)), ("h", ("b",))), False),
            ([("given", 0), ("inside", "H", (0,))], (("h", ("a",)), ("h", ("b",))), False),
            ([("given", 0), ("inside", "f", (0,)), ("part", 1, 0)], ("a", "b"), False),
            ([("given", 3)], ("a", "b"), False),
            ([("given", -3)], ("a", "b"), False),
            ([("turned", 0)], ("b", "a"), False),
            ([("given", 0), ("turned", 0, 0)], ("b", "a"), False),
            ([], ("a", "a"), False),
        ):
            self.assertIs(Equal(steps).shows(equations, pair), is_right, steps)
        self.assertIs(Equal([("same", "a")]).shows([], ("a", "a")), True)

    def test_what_apart_shows(self):
        equations, pair = [(("f", ("a",)), "b")], ("a", "b")
        for constants, compounds, beyond, is_right in (
            ({"a": 0, "b": 1}, {("f", (0,)): 1}, 2, True),
            ({"a": 0}, {}, 1, True),
            ({"a": -4}, {}, 10 ** 9, True),
            ({"b": 0}, {("f", (1,)): 0}, 1, True),
            ({"a": 0, "b": 1}, {}, 2, False),
            ({"a": 0, "b": 1}, {("f", (1,)): 1}, 2, False),
            ({"a": 0, "b": 0}, {("f", (0,)): 0}, 2, False),
            ({}, {}, 2, False),
            ({"a": 0, "?": 1}, {}, 1, False),
            ({"a": 0}, {("f", ()): 1}, 1, False),
            ({"a": 0}, {("f", 0): 1}, 1, False),
            ({"a": 0}, {"f": 1}, 1, False),
            ({"a": 0}, {("f", (0,), 0): 1}, 1, False),
            ({"a": 0}, {("F", (0,)): 1}, 1, False),
            ({"a": 0, "b": 1}, {("f", (False,)): 1}, 2, False),
            ({"a": False, "b": 1}, {("f", (0,)): 1}, 2, False),
            ({"a": 0}, {}, True, False),
            ({"a": 0, True: 4}, {}, 1, False),
        ):
            self.assertIs(Apart(constants, compounds, beyond).shows(equations, pair), is_right, (constants, compounds))

    def test_equal_to_the_like_alone(self):
        self.assertEqual(Equal([("same", "a")]), Equal((("same", "a"),)))
        self.assertNotEqual(Equal([("same", "a")]), Equal([("same", "b")]))
        self.assertNotEqual(Equal([]), ())
        one = Apart({"a": 0}, {("f", (0,)): 1}, 2)
        self.assertEqual(one, Apart({"a": 0}, {("f", (0,)): 1}, 2))
        self.assertNotEqual(one, Apart({"a": 1}, {("f", (0,)): 1}, 2))
        self.assertNotEqual(one, Apart({"a": 0}, {("f", (0,)): 0}, 2))
        self.assertNotEqual(one, Apart({"a": 0}, {("f", (0,)): 1}, 3))
        self.assertNotEqual(one, Equal([]))

    def test_spoilt(self):
        arguments = [[("a", "b"), ("c", "b")], (("f", ("a", 1)), ("f", ("c", 1)))]
        self.assertGreater(check_spoilt(self, judge_equal(*arguments), arguments), 500)
        arguments = [[(("f", ("a",)), "b"), (1, "c")], ("a", 1)]
        self.assertGreater(check_spoilt(self, judge_equal(*arguments), arguments), 500)


class ClassesTest(unittest.TestCase):
    def test_classes(self):
        equations = [("a", "b"), (("f", ("c",)), 3)]
        terms = ["c", ("f", ("b",)), 3, "b", ("f", ("a",)), "a", ("f", ("c",)), "b", 7]
        rows = [(3, ("f", ("c",))), (7,), ("a", "b"), ("c",), (("f", ("a",)), ("f", ("b",)))]
        self.assertEqual(classes_of(equations, terms), rows)
        self.assertEqual(classes_of(equations, tuple(terms[::-1])), rows)
        self.assertEqual(classes_of([], ["a", "a"]), [("a",)])
        self.assertEqual(classes_of(equations, []), [])
        self.assertEqual(classes_of(FIVE, [wrapped(at, "a") for at in (3, 0, 2)]), [("a", wrapped(2, "a"), wrapped(3, "a"))])
        # A term that stands nowhere else may be what makes two others the same.
        self.assertEqual(classes_of([("a", "b")], [("g", ("a", "b")), ("g", ("b", "a"))]), [(("g", ("a", "b")), ("g", ("b", "a")))])

    def test_random(self):
        source = random.Random(173)
        for _ in range(150):
            equations = [(ground_term(source, 2), ground_term(source, 2)) for _ in range(source.randrange(0, 4))]
            terms = [ground_term(source, 2) for _ in range(source.randrange(0, 7))]
            numbers = naive_classes(equations, terms)
            rows = {}
            for term in sorted(terms, key=lambda term: terms_key([term])):
                row = rows.setdefault(numbers[repr(term)], [])
                if term not in row:
                    row.append(term)
            self.assertEqual(classes_of(equations, terms), [tuple(row) for row in rows.values()])

    def test_least_equal(self):
        self.assertEqual(least_equal([], ("f", ("a",))), ("f", ("a",)))
        self.assertEqual(least_equal([("b", "a")], "b"), "a")
        self.assertEqual(least_equal([("a", 1)], ("f", ("a",))), ("f", (1,)))
        self.assertEqual(least_equal([(("f", ("a",)), ("h", ("b", "b"))), ("b", ("f", (9,)))], ("h", ("b", "b"))), ("f", ("a",)))
        self.assertEqual(least_equal([(("g", ("a",)), ("f", ("b",)))], ("g", ("a",))), ("f", ("b",)))
        self.assertEqual(least_equal([(("g", ("a",)), ("f", ("b", "b")))], ("f", ("b", "b"))), ("g", ("a",)))
        self.assertEqual(least_equal(FIVE, wrapped(4, "a")), "a")
        self.assertEqual(least_equal([(wrapped(19, "a"), "b")], wrapped(19, "a")), "b")
        deep = [("a" + str(at), wrapped(19, "a" + str(at + 1))) for at in range(5)]
        self.assertEqual(least_equal(deep, wrapped(1, "a0")), wrapped(1, "a0"))

    def test_equal_terms(self):
        self.assertEqual(equal_terms([("b", "a"), (1, "b")], "a", 1), [1, "a", "b"])
        self.assertEqual(equal_terms([("b", "a")], "a", 2), [])
        loop = [("a", ("f", ("a",)))]
        for signs in range(1, 9):
            self.assertEqual(equal_terms(loop, "a", signs), [wrapped(signs - 1, "a", "f")])
        terms = equal_terms([("a", ("g", ("a", "b"))), ("b", "a")], "b", 5)
        self.assertEqual(len(terms), 16)
        self.assertEqual(terms, sorted(terms, key=lambda term: terms_key([term])))
        self.assertEqual(terms[0], ("g", ("a", ("g", ("a", "a")))))
        self.assertEqual(equal_terms([], ("f", ("a",)), 2), [("f", ("a",))])
        self.assertEqual(equal_terms([], ("f", ("a",)), 30), [])
        self.assertEqual(len(equal_terms(loop, "a", 40)), 1)

    def test_are_endless(self):
        for equations, term, is_right in (
            ([], "a", False),
            ([("a", ("f", ("a",)))], "a", True),
            ([("a", ("f", ("a",)))], ("h", ("b", "a")), True),
            ([("a", ("f", ("a",)))], "b", False),
            ([("a", ("f", ("b",))), ("b", ("f", ("a",)))], "b", True),
            ([("a", ("f", ("b",))), ("b", ("f", ("c",)))], "a", False),
            (FIVE, wrapped(2, "a"), True),
            ([("a", "b"), ("b", "c")], "c", False),
        ):
            self.assertIs(are_endless(equations, term), is_right, (equations, term))

    def test_against_all_terms(self):
        source = random.Random(179)
        some = 0
        every = {signs: all_terms(signs) for signs in range(1, 6)}
        for _ in range(100):
            equations = [(ground_term(source, 1, "abc"), ground_term(source, 2, "abc")) for _ in range(source.randrange(1, 4))]
            term = ground_term(source, 2, "abc")
            found = []
            for signs in range(1, 6):
                rows = [row for row in classes_of(equations, every[signs] + [term]) if term in row]
                right = [one for one in rows[0] if signs_of(one) == signs]
                self.assertEqual(equal_terms(equations, term, signs), right)
                found.extend(right)
            if found:
                self.assertEqual(least_equal(equations, term), found[0])
            some += len(found)
            if not are_endless(equations, term):
                self.assertEqual(equal_terms(equations, term, 30), [])
        self.assertGreater(some, 150)

    def test_lists_are_new(self):
        equations, terms = [("a", "b")], ["b", "a"]
        classes_of(equations, terms).append(None)
        equal_terms(equations, "a", 1).append(None)
        self.assertEqual(classes_of(equations, terms), [("a", "b")])
        self.assertEqual(equal_terms(equations, "a", 1), ["a", "b"])
        self.assertEqual((equations, terms), ([("a", "b")], ["b", "a"]))
        constants, compounds = {"a": 0}, {("f", (0,)): 1}
        paper = Apart(constants, compounds, 3)
        constants["b"] = 1
        compounds["g", (0,)] = 2
        self.assertEqual((paper.constants, paper.compounds), ({"a": 0}, {("f", (0,)): 1}))


class WrongTest(unittest.TestCase):
    def bad(self, call, place, *arguments):
        with self.assertRaises(BadTerm, msg=arguments) as caught:
            call(*arguments)
        self.assertEqual(caught.exception.place, place, arguments)

    def test_equations(self):
        calls = [judge_equal, Equal([]).shows, Apart({}, {}, 0).shows, classes_of, least_equal, are_endless]
        calls.append(lambda equations, term: equal_terms(equations, term, 0))
        for equations, place in (
            (None, None), (3, None), ({}, None), ([None], 0), ([("a", "b"), ("a",)], 1), ([["a", "b"]], 0),
            ([("a", True)], 0), ([("a", wrapped(20, "a"))], 0), ([(X, "a"), ("a", "b"), ("a", "A")], 2),
            ([("a", "b"), ("a", ("f", (X,)))], 1), ([(X, X), ("a", X)], 0), ([("a", "b"), (X, "a"), 3], 2),
        ):
            for call in calls:
                self.bad(call, place, equations, None)

    def test_pairs_terms_and_rows(self):
        for pair in (None, 3, "a", ("a",), ["a", "b"], ("a", X), (X, X), ("a", wrapped(20, "a")), ("a", "b", "c"), ("a", True)):
            for call in (judge_equal, Equal([("given", 0)]).shows, Apart({}, {}, 0).shows):
                self.bad(call, None, [("a", "b")], pair)
        for term in (None, X, ("f", ("a", X)), wrapped(20, "a"), True, "A", ("f", ())):
            self.bad(least_equal, None, [("a", "b")], term)
            self.bad(are_endless, None, [], term)
            self.bad(lambda one: equal_terms([], one, 0), None, term)
            self.bad(classes_of, None, [("a", "b")], ["a", term])
        for terms in (None, 3, "a", {}):
            self.bad(classes_of, None, [], terms)
        self.assertTrue(least_equal([], wrapped(19, "a")))

    def test_signs(self):
        for signs in (0, -1, None, True, "1", (), 1.0):
            with self.assertRaises(TooLarge) as caught:
                equal_terms([("a", "b")], "a", signs)
            self.assertIs(caught.exception.number, signs)


if __name__ == "__main__":
    unittest.main()
