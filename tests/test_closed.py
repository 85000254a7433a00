"""[26]: closed signatures."""

import itertools
import random
import unittest

from proofsizes.closed import AllMet, BadSignature, Filled, Signature, Unfilled, Unmet, judge_filled, judge_patterns
from proofsizes.closed import needless_patterns
from proofsizes.errors import BadTerm, RelationError, TooLarge
from proofsizes.stores import NoValues, Valued, judge_values
from tests.plain import matched, put_in
from tests.samples import W, X, Y, Z, wrapped
from tests.spoiling import check_spoilt

BITS = Signature([0, 1], {})
COUNT = Signature(["z"], {"s": 1})
PAIRS = Signature(("a", "b"), {"f": 1, "g": 2})
LISTS = Signature(["none", 0, 1], {"row": 2})


def ground_terms(signature, depth):
    """All ground terms of a signature with so many within one another at most."""
    found = list(signature.constants)
    if depth > 1:
        inner = ground_terms(signature, depth - 1)
        for name, many in signature.compounds.items():
            found.extend((name, parts) for parts in itertools.product(inner, repeat=many))
    return found


def random_term(source, signature, depth, names):
    chance = source.random()
    if chance < 0.45:
        return ("?", source.choice(names))
    if depth == 0 or chance < 0.65 or not signature.compounds:
        return source.choice(signature.constants)
    name = source.choice(list(signature.compounds))
    return (name, tuple(random_term(source, signature, depth - 1, names) for _ in range(signature.compounds[name])))


def unlike(*terms):
    """Inequations by which all of some terms are unlike."""
    return [[(one, other)] for one, other in itertools.combinations(terms, 2)]


class SignatureTest(unittest.TestCase):
    def test_attributes(self):
        signature = Signature(["b", 1, "a"], {"g": 2, "f": 1})
        self.assertEqual(signature.constants, ("b", 1, "a"))
        self.assertEqual(list(signature.compounds.items()), [("f", 1), ("g", 2)])
        self.assertEqual(signature, Signature(("b", 1, "a"), {"f": 1, "g": 2}))
        for other in (Signature(["a", 1, "b"], {"g": 2, "f": 1}), Signature(["b", 1, "a"], {"g": 2}), None,
                      Signature(["b", 1, "a"], {"g": 2, "f": 2}), (("b", 1, "a"), {"f": 1, "g": 2})):
            self.assertNotEqual(signature, other)

    def test_bounds(self):
        self.assertEqual(len(Signature(range_of(12), {}).constants), 12)
        self.assertEqual(Signature([3], {}).compounds, {})
        many = {"c" + str(at): at % 6 + 1 for at in range(12)}
        self.assertEqual(Signature(["a"], many).compounds, many)

    def test_has(self):
        for term, is_one in (
            ("a", True), ("b", True), ("c", False), (1, False), (X, True), (("f", ("a",)), True), (("f", (X,)), True),
            (("f", ("a", "b")), False), (("g", ("a", X)), True), (("g", ("a",)), False), (("h", ("a",)), False),
            (("g", (("f", (X,)), ("f", ("c",)))), False), (wrapped(30, "a", "f"), True), ("f", False),
            (("a", ("b",)), False), (("?", 7), True),
        ):
            self.assertIs(PAIRS.has(term), is_one, term)
        self.assertIs(BITS.has(("f", (0,))), False)

    def test_wrong(self):
        self.assertIs(BadSignature.__mro__[1], RelationError)
        for constants in (None, [], (), 3, "a", {"a": 1}, range_of(13), ["a", "a"], [1, "b", 1], ["A"], [X], [True], [None],
                          ["ninesigns"], [("f", ("a",))]):
            for compounds in ({}, None, {"f": 0}):
                self.bad("constants", constants, compounds)
        thirteen = {"c" + str(at): 1 for at in range(13)}
        for compounds in (None, [], 3, ["f"], [("f", 1)], {"f": 0}, {"f": 7}, {"f": True}, {"f": None}, {"F": 1}, {1: 1},
                          {"ninesigns": 1}, {"f": 1, "g": -1}, {None: 1}, thirteen, {"f": "1"}):
            self.bad("compounds", ["a"], compounds)

    def bad(self, part, *arguments):
        with self.assertRaises(BadSignature, msg=arguments) as caught:
            Signature(*arguments)
        self.assertEqual(caught.exception.part, part, arguments)

    def test_arguments_are_not_kept(self):
        constants, compounds = ["a"], {"f": 1}
        signature = Signature(constants, compounds)
        constants.append("b")
        compounds["g"] = 2
        self.assertEqual(signature, Signature(["a"], {"f": 1}))


def range_of(many):
    return list(range(many))


class FilledTest(unittest.TestCase):
    def filled(self, signature, equations, inequations):
        paper = judge_filled(signature, equations, inequations)
        self.assertIsInstance(paper, Filled)
        self.assertIs(bool(paper), True)
        self.assertIs(paper.shows(signature, equations, inequations), True)
        self.assertIs(Unfilled().shows(signature, equations, inequations), False)
        return paper.ground

    def unfilled(self, signature, equations, inequations):
        paper = judge_filled(signature, equations, inequations)
        self.assertEqual(paper, Unfilled())
        self.assertIs(bool(paper), False)
        self.assertIs(paper.shows(signature, equations, inequations), True)

    def test_constants_alone(self):
        self.filled(BITS, [], unlike(X, Y))
        self.unfilled(BITS, [], unlike(X, Y, Z))
        self.assertTrue(judge_values([], unlike(X, Y, Z)))
        self.unfilled(BITS, [], [[(X, 0)], [(X, 1)]])
        self.assertEqual(self.filled(BITS, [(X, Y)], [[(Y, 0)]]), {"x": 1, "y": 1})
        self.unfilled(BITS, [(X, Y), (Y, Z)], [[(X, 0), (Z, 0)], [(Y, 1)]])
        self.assertEqual(self.filled(BITS, [], [[(X, 0), (Y, 0)], [(X, 1)]]), {"x": 0, "y": 1})
        self.unfilled(BITS, [(0, 1)], [])
        self.unfilled(BITS, [], [[]])
        self.assertEqual(self.filled(BITS, [], []), {})
        self.unfilled(Signature(["a"], {}), [], unlike(X, Y))
        self.assertEqual(self.filled(Signature(["a"], {}), [(X, Y)], []), {"x": "a", "y": "a"})

    def test_with_a_compound(self):
        self.filled(COUNT, [], unlike(X, Y, Z, W, "z", wrapped(1, "z")))
        self.filled(COUNT, [(X, wrapped(3, Y))], unlike(X, Y, Z, wrapped(4, "z")))
        self.unfilled(COUNT, [(X, wrapped(3, X))], [])
        self.unfilled(COUNT, [(X, Y)], [[(X, Y)]])
        many = [("?", at) for at in range(12)]
        ground = self.filled(COUNT, [], unlike(*many))
        self.assertEqual(list(ground), range_of(12))
        self.filled(PAIRS, [(X, ("g", (Y, Z)))], unlike(Y, Z, "a", "b", W) + [[(W, ("f", (Y,)))], [(X, W)]])
        six = Signature(["a"], {"h": 6})
        self.filled(six, [], unlike(X, Y, Z, W))

    def test_pairs_of_one_inequation(self):
        self.filled(BITS, [], [[(X, Y), (Y, Z)], [(X, 0), (Y, 1)], [(X, 1), (Z, 0)]])
        self.filled(COUNT, [], [[(X, "z"), (Y, "z")], [(X, wrapped(1, Y))], [(X, Y), (Y, Z)]])

    def test_names_ascend(self):
        ground = self.filled(PAIRS, [(Y, X), (("?", 7), "a")], [[(W, ("?", 10))]])
        self.assertEqual(list(ground), [7, 10, "w", "x", "y"])

    def test_twelve_constants(self):
        twelve = Signature(range_of(12), {})
        many = [("?", at) for at in range(13)]
        self.assertEqual(sorted(self.filled(twelve, [], unlike(*many[:12])).values()), range_of(12))
        self.unfilled(twelve, [], unlike(*many))
        self.unfilled(twelve, [], [[(X, at)] for at in range(12)])
        # What is asked of others doesn't multiply what is tried for these.
        self.unfilled(twelve, [], unlike(*many[:12]) + [[(X, at)] for at in range(12)])
        self.unfilled(BITS, [], [[(("?", at), ("?", at + 1))] for at in range(40)] + unlike(X, Y, Z))
        ground = self.filled(BITS, [], [[(("?", at), ("?", at + 1))] for at in range(60)])
        self.assertEqual(ground[0], ground[60])

    def test_the_same_as_by_all_constants(self):
        source = random.Random(181)
        kinds = {True: 0, False: 0}
        three = Signature(["a", "b", 1], {})
        names = ["x", "y", "z", 0]
        for _ in range(400):
            signature = source.choice([BITS, three])
            equations = [random_pair(source, signature, names) for _ in range(source.randrange(0, 2))]
            inequations = []
            for _ in range(source.randrange(0, 9)):
                inequations.append([random_pair(source, signature, names) for _ in range(source.choice([1, 1, 2]))])
            paper = judge_filled(signature, equations, inequations)
            kinds[bool(paper)] += 1
            self.assertTrue(paper.shows(signature, equations, inequations))
            self.assertIs(bool(paper), can_be_filled(signature.constants, names, equations, inequations))
        self.assertGreater(min(kinds.values()), 50)

    def test_with_a_compound_just_if_there_are_values_at_all(self):
        source = random.Random(191)
        kinds = {True: 0, False: 0}
        names = ["x", "y", "z", 0]
        for _ in range(400):
            signature = source.choice([COUNT, PAIRS, LISTS])
            equations = [random_pair(source, signature, names, 2) for _ in range(source.randrange(0, 3))]
            inequations = []
            for _ in range(source.randrange(0, 9)):
                inequations.append([random_pair(source, signature, names, 2) for _ in range(source.choice([1, 1, 2]))])
            paper = judge_filled(signature, equations, inequations)
            kinds[bool(paper)] += 1
            self.assertTrue(paper.shows(signature, equations, inequations))
            self.assertIs(bool(paper), bool(judge_values(equations, inequations)))
        self.assertGreater(min(kinds.values()), 50)

    def test_what_filled_shows(self):
        equations, inequations = [(X, ("f", (Y,)))], [[(Z, Y)]]
        for ground, is_right in (
            ({"x": ("f", ("a",)), "y": "a", "z": "b"}, True),
            ({"x": ("f", ("a",)), "y": "a", "z": wrapped(40, "a", "f")}, True),
            ({"x": ("f", ("a",)), "y": "a", "z": "c"}, False),
            ({"x": ("f", ("a",)), "y": "a", "z": ("g", ("a",))}, False),
            ({"x": ("f", ("a",)), "y": "a", "z": "a"}, False),
            ({"x": ("f", ("b",)), "y": "a", "z": "b"}, False),
            ({"x": ("f", ("a",)), "y": "a"}, False),
            ({"x": ("f", ("a",)), "y": "a", "z": "b", "w": "a"}, False),
            ({"x": ("f", (X,)), "y": X, "z": "b"}, False),
            ({}, False),
        ):
            self.assertIs(Filled(ground).shows(PAIRS, equations, inequations), is_right, ground)
        self.assertIs(Filled({}).shows(PAIRS, [], []), True)

    def test_bad_terms(self):
        calls = (judge_filled, Filled({}).shows, Unfilled().shows)
        for place, equations, inequations in (
            (None, None, None),
            (1, [(X, "c"), (X, None)], None),
            (0, [(X, wrapped(20, X, "f"))], 3),
            (None, [(X, "c")], 3),
            (1, [(X, "c")], [[], [(X, "A")]]),
            (2, [(X, "a"), (X, ("g", (Y, Z))), (X, "c"), (X, 1)], [[(X, "c")]]),
            (0, [(("f", ("a", "b")), X)], []),
            (0, [("h", X)], []),
            (1, [(X, "a")], [[(X, "b")], [(X, "b"), (Y, ("f", (1,)))], [(X, "c")]]),
            (0, [], [[(("h", (X,)), X)]]),
        ):
            for call in calls:
                with self.assertRaises(BadTerm, msg=(equations, inequations)) as caught:
                    call(PAIRS, equations, inequations)
                self.assertEqual(caught.exception.place, place)
        self.assertTrue(judge_filled(PAIRS, ((X, wrapped(19, Y, "f")),), ()))

    def test_equal_to_the_like_alone(self):
        self.assertEqual(Filled({"x": 0, "y": 1}), Filled({"y": 1, "x": 0}))
        self.assertNotEqual(Filled({"x": 0}), Filled({"x": 1}))
        self.assertNotEqual(Filled({"x": 0}), Valued({"x": 0}))
        self.assertEqual(Unfilled(), Unfilled())
        self.assertNotEqual(Unfilled(), NoValues(None, None))
        self.assertNotEqual(Unfilled(), False)

    def test_arguments_are_not_changed_and_not_kept(self):
        equations, inequations = [(X, Y)], [[(X, 0)]]
        paper = judge_filled(BITS, equations, inequations)
        paper.ground["x"] = None
        self.assertEqual(judge_filled(BITS, equations, inequations).ground, {"x": 1, "y": 1})
        self.assertEqual((equations, inequations), ([(X, Y)], [[(X, 0)]]))
        ground = {"x": 0}
        kept = Filled(ground)
        ground["y"] = 1
        self.assertEqual(kept.ground, {"x": 0})

    def test_spoilt(self):
        arguments = [PAIRS, [(X, ("f", (Y,)))], [[(Y, "a")]]]
        self.assertGreater(check_spoilt(self, judge_filled(*arguments), arguments), 150)
        self.assertFalse(Filled({"x": True}).shows(BITS, [], [[(X, 0)]]))

    def test_too_many_cases_or_the_answer(self):
        source = random.Random(193)
        names = list(range(24))
        edges = [pair for pair in itertools.combinations(names, 2) if source.random() < 0.3]
        inequations = [[(("?", one), ("?", other))] for one, other in edges]
        for many in (3, 4, 5, 6):
            try:
                paper = judge_filled(Signature(range_of(many), {}), [], inequations)
                self.assertTrue(paper.shows(Signature(range_of(many), {}), [], inequations))
            except TooLarge as large:
                self.assertGreater(large.number, 20000)


def random_pair(source, signature, names, depth=0):
    return random_term(source, signature, depth, names), random_term(source, signature, depth, names)


def can_be_filled(constants, names, equations, inequations):
    """Whether some constants for names fulfil all, by trying them."""
    for row in itertools.product(constants, repeat=len(names)):
        worth = dict(zip(names, row))
        if all(put_in(one, worth) == put_in(other, worth) for one, other in equations):
            if not any(all(put_in(one, worth) == put_in(other, worth) for one, other in pairs) for pairs in inequations):
                return True
    return False


class PatternsTest(unittest.TestCase):
    def met(self, signature, terms, patterns):
        paper = judge_patterns(signature, terms, patterns)
        self.assertEqual(paper, AllMet())
        self.assertIs(bool(paper), True)
        self.assertIs(paper.shows(signature, terms, patterns), True)

    def unmet(self, signature, terms, patterns):
        paper = judge_patterns(signature, terms, patterns)
        self.assertIsInstance(paper, Unmet)
        self.assertIs(bool(paper), False)
        self.assertIsInstance(paper.row, tuple)
        self.assertIs(paper.shows(signature, terms, patterns), True)
        self.assertIs(AllMet().shows(signature, terms, patterns), False)
        return paper.row

    def test_patterns_that_meet_all_together(self):
        zero, more = ["z"], [wrapped(1, X)]
        self.met(COUNT, [X], [zero, more])
        self.assertEqual(self.unmet(COUNT, [X], [more]), ("z",))
        self.unmet(COUNT, [X], [zero])
        self.met(COUNT, [wrapped(2, Y)], [more])
        self.met(COUNT, [X], [[wrapped(2, Y)], zero, [wrapped(1, "z")]])
        self.assertEqual(self.unmet(COUNT, [X], [[wrapped(3, Y)], zero, [wrapped(1, "z")]]), (wrapped(2, "z"),))
        self.met(BITS, [X, Y], [[0, X], [X, 1], [1, 0]])
        self.assertEqual(self.unmet(BITS, [X, Y], [[0, X], [X, 1]]), (1, 0))

    def test_unknowns_that_stand_twice(self):
        self.met(BITS, [X, Y], [[X, X], [0, 1], [1, 0]])
        self.assertIn(self.unmet(BITS, [X, Y], [[X, X], [0, 1]]), [(1, 0)])
        self.met(BITS, [X, Y, Z], [[X, X, Y], [X, Y, X], [Y, X, X]])
        self.unmet(Signature([0, 1, 2], {}), [X, Y, Z], [[X, X, Y], [X, Y, X], [Y, X, X]])
        self.met(BITS, [X, X], [[Y, Y]])
        self.met(COUNT, [X, X], [[Y, Y]])
        self.unmet(COUNT, [X, Y], [[Y, Y]])
        self.met(COUNT, [X, wrapped(1, X)], [[Y, wrapped(1, Y)]])
        self.unmet(COUNT, [X, wrapped(1, Y)], [[Y, wrapped(1, Y)]])
        self.met(COUNT, [X, X], [["z", Y], [wrapped(1, Y), wrapped(1, Y)]])
        self.met(LISTS, [("row", (X, X))], [[("row", (Y, Y))]])

    def test_names_of_unknowns_are_each_rows_own(self):
        self.met(COUNT, [X, Y], [[Y, X]])
        self.met(COUNT, [("?", 0), ("?", 1)], [[wrapped(1, ("?", 1)), ("?", 0)], ["z", ("?", 7)]])
        self.unmet(COUNT, [("?", 1), ("?", 0)], [[("?", 0), ("?", 0)]])

    def test_ground_terms(self):
        self.met(PAIRS, ["a"], [["b"], ["a"]])
        self.assertEqual(self.unmet(PAIRS, ["a", ("g", ("a", "b"))], [["b", X], [X, ("g", (Y, Y))]]), ("a", ("g", ("a", "b"))))

    def test_rows_of_no_terms(self):
        self.met(BITS, [], [[]])
        self.met(BITS, [], [(), ()])
        self.assertEqual(self.unmet(BITS, [], []), ())

    def test_no_patterns(self):
        self.unmet(PAIRS, [X, ("f", (Y,))], [])
        self.assertEqual(self.unmet(BITS, [X], [])[0], 0)

    def test_functions_over_rows(self):
        none, more = "none", ("row", (X, Y))
        words = Signature(["none", "x"], {"row": 2, "leaf": 1})
        self.unmet(words, [X, Y], [[none, X], [more, none], [more, ("row", (Z, W))]])
        self.met(words, [X, Y], [[none, X], [more, Z], ["x", X], [("leaf", (X,)), Y]])
        wide = Signature(range_of(12), {"c" + str(at): at % 6 + 1 for at in range(12)})
        rows = [[at] for at in range(12)]
        rows += [[("c" + str(at), tuple(("?", place) for place in range(at % 6 + 1)))] for at in range(12)]
        self.met(wide, [X], rows)
        for left in range(24):
            self.unmet(wide, [X], rows[:left] + rows[left + 1:])
        self.met(wide, [X, Y], [row + [Z] for row in rows])

    def test_the_same_as_by_all_small_rows(self):
        source = random.Random(197)
        kinds = {True: 0, False: 0}
        names = ["x", "y"]
        for _ in range(600):
            signature = source.choice([BITS, COUNT, COUNT, PAIRS, LISTS])
            width = source.choice([1, 2, 2])
            terms = [random_term(source, signature, 1, names + ["z"]) for _ in range(width)]
            patterns = [[random_term(source, signature, 2, names) for _ in range(width)] for _ in range(source.randrange(0, 8))]
            paper = judge_patterns(signature, terms, patterns)
            kinds[bool(paper)] += 1
            self.assertTrue(paper.shows(signature, terms, patterns))
            if paper:
                inner = ground_terms(signature, 3 if signature in (BITS, COUNT) else 2)
                for row in itertools.product(inner, repeat=3):
                    worth = dict(zip(["x", "y", "z"], row))
                    asked = [put_in(term, worth) for term in terms]
                    self.assertTrue(any(matched(pattern, asked, {}) is not None for pattern in patterns))
        self.assertGreater(min(kinds.values()), 50)

    def test_patterns_split_again_and_again_meet_all(self):
        source = random.Random(199)
        for _ in range(150):
            signature = source.choice([BITS, COUNT, PAIRS, LISTS])
            patterns = [[("?", 0), ("?", 1)]]
            for _ in range(source.randrange(1, 4)):
                patterns = split_pattern(source, signature, patterns)
            source.shuffle(patterns)
            self.met(signature, [X, Y], patterns)
            for left in range(len(patterns)):
                # The parts have nothing in common, so that none is needless.
                row = self.unmet(signature, [X, Y], patterns[:left] + patterns[left + 1:])
                self.assertIsNotNone(matched(patterns[left], row, {}))
            self.assertEqual(needless_patterns(signature, patterns), ())
            self.assertEqual(needless_patterns(signature, patterns + [[X, X]]), (len(patterns),))

    def test_needless_patterns(self):
        rows = [[X, X], ["z", "z"], ["z", wrapped(1, X)], [wrapped(1, X), "z"], [wrapped(1, X), wrapped(1, Y)], ["z", X]]
        self.assertEqual(needless_patterns(COUNT, rows), (1, 5))
        self.assertEqual(needless_patterns(COUNT, []), ())
        self.assertEqual(needless_patterns(COUNT, ([], ())), (1,))
        self.assertEqual(needless_patterns(COUNT, [[X], [X], ["z"]]), (1, 2))
        self.assertEqual(needless_patterns(BITS, [[0], [1], [X]]), (2,))
        self.assertIsInstance(needless_patterns(BITS, [[0]]), tuple)

    def test_what_unmet_shows(self):
        terms, patterns = [X, ("f", (Y,))], [["a", X], [X, ("f", (X,))]]
        for row, is_right in (
            (("b", ("f", ("a",))), True),
            (["b", ("f", ("a",))], True),
            ((wrapped(50, "a", "f"), ("f", ("a",))), True),
            (("a", ("f", ("a",))), False),
            (("b", ("f", ("b",))), False),
            (("b", "a"), False),
            (("c", ("f", ("a",))), False),
            (("b", ("f", ("c",))), False),
            (("b",), False),
            (("b", ("f", ("a",)), "a"), False),
            ((X, ("f", ("a",))), False),
            ((), False),
        ):
            self.assertIs(Unmet(row).shows(PAIRS, terms, patterns), is_right, row)

    def test_bad_terms(self):
        calls = (judge_patterns, AllMet().shows, Unmet(("b",)).shows)
        for place, terms, patterns in (
            (None, None, None),
            (None, [None], [None]),
            (None, ["c"], [None]),
            (None, [("f", ("a", "b"))], []),
            (None, [wrapped(20, "a", "f")], []),
            (None, {}, []),
            (None, [X], None),
            (None, [X], 3),
            (0, [X], [None]),
            (1, [X], [["a"], ["a", "b"], [1]]),
            (1, [X], [["a"], [], ["b"]]),
            (2, [X, Y], [[X, X], ("a", Y), ["a", "c"], None]),
            (0, [X], [[("f", (X, Y))]]),
            (0, [X], [[True]]),
            (0, [], [["a"]]),
        ):
            for call in calls:
                with self.assertRaises(BadTerm, msg=(terms, patterns)) as caught:
                    call(PAIRS, terms, patterns)
                self.assertEqual(caught.exception.place, place, (terms, patterns))
        for place, patterns in ((None, None), (None, 3), (None, {}), (0, [None]), (0, ["a"]), (1, [["a"], ["a", "b"]]),
                                (0, [["c"]]), (2, [[X], [X], None]), (1, [[], [X]])):
            with self.assertRaises(BadTerm, msg=patterns) as caught:
                needless_patterns(PAIRS, patterns)
            self.assertEqual(caught.exception.place, place, patterns)

    def test_equal_to_the_like_alone(self):
        self.assertEqual(AllMet(), AllMet())
        self.assertNotEqual(AllMet(), Unmet(()))
        self.assertNotEqual(AllMet(), True)
        self.assertEqual(Unmet(["a"]), Unmet(("a",)))
        self.assertNotEqual(Unmet(("a",)), Unmet(("b",)))
        self.assertNotEqual(Unmet(("a",)), ("a",))

    def test_arguments_are_not_changed(self):
        terms, patterns = [X, Y], [[X, X], ["z", wrapped(1, Z)]]
        judge_patterns(COUNT, terms, patterns)
        needless_patterns(COUNT, patterns)
        self.assertEqual((terms, patterns), ([X, Y], [[X, X], ["z", wrapped(1, Z)]]))

    def test_spoilt(self):
        arguments = [PAIRS, [X, ("f", (Y,))], [["a", X], [X, ("f", (X,))]]]
        self.assertGreater(check_spoilt(self, judge_patterns(*arguments), arguments), 200)
        self.assertFalse(Unmet((True,)).shows(BITS, [X], [[0]]))

    def test_too_many_cases(self):
        big = Signature(["a"], {"f": 6, "g": 6})
        forks = [("f", tuple(("?", at) for at in range(6))), ("g", tuple(("?", at) for at in range(6)))]
        deep = [("f", tuple(("f", tuple(("?", 10 * one + two) for two in range(6))) for one in range(6)))]
        try:
            paper = judge_patterns(big, [X], [[one] for one in deep + forks])
            self.assertTrue(paper.shows(big, [X], [[one] for one in deep + forks]))
        except TooLarge as large:
            self.assertGreater(large.number, 20000)


def split_pattern(source, signature, patterns):
    """Patterns of which one is put in place of those that it has, with all constants and compounds for an unknown."""
    at = source.randrange(len(patterns))
    names = sorted({part[1] for term in patterns[at] for part in unknowns_in(term)})
    if not names:
        return patterns
    name = source.choice(names)
    found = []
    for term in list(signature.constants) + list(signature.compounds):
        if term in signature.compounds:
            term = (term, tuple(("?", 100 * (name + 1) + place) for place in range(signature.compounds[term])))
        found.append([put_in(part, {name: term}) for part in patterns[at]])
    return patterns[:at] + found + patterns[at + 1:]


def unknowns_in(term):
    if not isinstance(term, tuple):
        return []
    return [term] if term[0] == "?" else [part for inner in term[1] for part in unknowns_in(inner)]


if __name__ == "__main__":
    unittest.main()
