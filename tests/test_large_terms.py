"""[2] to [5], [13], [14], [16], [18], [25], [26], [29], [31] to [33], [38], [39], [43]: terms with many parts, shared or not."""

import unittest

from proofsizes.answers import Answer, is_instance
from proofsizes.closed import AllMet, Filled, Signature, Unmet, judge_filled, judge_patterns, needless_patterns
from proofsizes.congruence import Equal, are_endless, classes_of, equal_terms, judge_equal, least_equal
from proofsizes.counting import proof_of
from proofsizes.covering import Outside, judge_covered
from proofsizes.differing import OnlyOne, judge_programs
from proofsizes.errors import BadAnswer, BadQuestion, BadRule, BadTerm, TooLarge
from proofsizes.falling import falling_places, first_standing, is_falling, levels_for
from proofsizes.following import judge_follows
from proofsizes.models import Model
from proofsizes.patterns import NotIn, instances_set, judge_pattern, some_in
from proofsizes.programs import Program, Question, Rule
from proofsizes.regular import InOne, others, relation_set
from proofsizes.searching import answered
from proofsizes.shallow import Has, all_terms, judge_shallow, type_of
from proofsizes.solving import Solved, Unsolved, solve
from proofsizes.stores import NoValues, Valued, judge_values
from proofsizes.tabling import tabled
from proofsizes.terms import is_deep_term, is_term
from proofsizes.texts import read_question, write_question
from proofsizes.unfolding import Needless, needless, unfolded
from tests.samples import X, Y, Z
from tests.shared import depth, parted, shared, spoilt

WAYS = ("001" * 5, "100" * 5, "110" * 5, "011" * 5, "0" * 15, "1" * 15, "0" * 14 + "1", "101")
EVEN = Program([Rule(("p", ("a",)), []), Rule(("p", (("f", (X, Y, Z)),)), [("p", (one,)) for one in (X, Y, Z)])])


def large(end):
    """A term with 20 within one another, made anew: with all its places it has some billion parts."""
    return shared(19, end, 3)


def wide(many, inner):
    """A term with so many small compounds in it."""
    return ("f", tuple([("h", (0, inner(at), 0)) for at in range(many)]))


def doubling(many):
    return [(("?", at + 1), ("f", (("?", at), ("?", at)))) for at in range(many)]


class TrueTest(unittest.TestCase):
    """True and False are no terms, wherever they stand."""

    def check(self, term):
        self.assertIs(is_term(term), False)
        self.assertIs(is_deep_term(term), False)
        with self.assertRaises(BadTerm) as caught:
            solve([(X, "a"), (X, term), (X, True)])
        self.assertEqual(caught.exception.place, 1)
        for call, kind, part in ((lambda: Answer([term], []), BadAnswer, "terms"), (lambda: Answer([X], [[(X, term)]]), BadAnswer, "inequations"), (lambda: Rule(("p", (term,)), []), BadRule, "head"),
                                 (lambda: Rule(("p", ()), [("p", (term,))]), BadRule, "goals"), (lambda: Question([term], []), BadQuestion, "terms"), (lambda: Question([], [("equal", (X, term))]), BadQuestion, "goals")):
            with self.assertRaises(kind) as caught:
                call()
            self.assertEqual(caught.exception.part, part)

    def test_shared_and_parted(self):
        for way in WAYS:
            for worth, wrong in ((1, True), (0, False)):
                self.check(spoilt(15, worth, wrong, way))
        self.check(("g", (parted(15, 1), parted(14, 0), spoilt(15, 1, True, WAYS[0]))))

    def test_evidence(self):
        whole = shared(15, 1)
        for way in WAYS[:5]:
            term = spoilt(15, 1, True, way)
            self.assertIs(Valued({"x": term}).shows([(X, whole)], []), False)
            self.assertIs(Solved({"x": term}).shows([(X, whole)]), False)
            self.assertIs(Outside((term,)).shows(Answer([X], []), []), False)
            self.assertIs(Equal((("same", term),)).shows([], (whole, whole)), False)
            self.assertIs(Needless(0, {"x": term}).shows(Program([Rule(("p", (X,)), []), Rule(("p", (whole,)), [])]), 1), False)
            self.assertIs(NotIn({"x": term}).shows(relation_set(EVEN, "p"), X), False)
            self.assertIs(Has({"x": term}).shows(Program([Rule(("p", (X,)), [])]), Question([], [("p", (X,))])), False)
            self.assertIs(InOne(term).shows(relation_set(EVEN, "p"), others(relation_set(EVEN, "p"))), False)
        self.assertIs(Valued({"x": whole}).shows([(X, whole)], []), True)
        self.assertIs(Solved({"x": parted(15, 1)}).shows([(X, whole)]), True)
        self.assertIs(Solved({"x": spoilt(15, 1, 2, WAYS[0])}).shows([(X, spoilt(15, 1, 2, WAYS[0]))]), True)
        self.assertIs(Solved({"x": spoilt(15, 1, 2, WAYS[0])}).shows([(X, spoilt(15, 1, 2, WAYS[1]))]), False)

    def test_it_is_found_beside_others(self):
        rows = [(X, shared(19, 0)), (Y, shared(19, 1)), (Z, spoilt(14, 1, True, "0" * 6 + "1")), (Z, Z)]
        with self.assertRaises(BadTerm) as caught:
            solve(rows)
        self.assertEqual(caught.exception.place, 2)
        with self.assertRaises(BadTerm) as caught:
            judge_values([(X, shared(19, 0))], [[(Y, "a")], rows, rows])
        self.assertEqual(caught.exception.place, 1)


class WideTest(unittest.TestCase):
    """Some ten thousand small compounds in a term."""

    def test_solve(self):
        for many, inner in ((40000, lambda at: at), (10000, lambda at: ("?", at)), (10000, lambda at: "a"), (10000, lambda at: ("g", (at, 0, at, 0, 0, 0, 0, 0, 0, at)))):
            term, again = wide(many, inner), wide(many, inner)
            found = solve([(X, term)])
            self.assertIs(found == Solved({"x": again}), True)
            self.assertIs(found.shows([(X, again)]), True)
        pairs = [(wide(9000, lambda at: ("?", at)), wide(9000, lambda at: at))]
        self.assertEqual(solve(pairs).bound, {at: at for at in range(9000)})
        pairs = [(wide(9000, lambda at: ("?", at // 2)), wide(9000, lambda at: at))]
        self.assertIs(type(solve(pairs)), Unsolved)
        self.assertIs(solve(pairs).shows(pairs), True)

    def test_elsewhere(self):
        term, other = wide(10000, lambda at: at), wide(10000, lambda at: at + 1)
        self.assertIs(bool(judge_values([(X, term)], [[(X, other)]])), True)
        self.assertEqual(judge_values([(X, term)], [[(X, other)], [(X, wide(10000, lambda at: at))]]), NoValues(1, None))
        one = Answer([wide(10000, lambda at: ("?", at))], [[(("?", 0), "a")]])
        self.assertIs(is_instance(one, (term,)), True)
        self.assertIs(bool(judge_covered(Answer([term], []), [one])), True)
        program = Program([Rule(("p", (term,)), []), Rule(("p", (("g", (X,)),)), [("p", (X,)), ("unlike", (X, other))])])
        self.assertEqual(len(answered(program, Question([X], [("p", (X,))]), 2)), 2)
        self.assertEqual([size for size, _ in tabled(program, Question([], [("p", (("g", (term,)),))]), 9)], [2])
        self.assertIs(bool(judge_equal([], (term, wide(10000, lambda at: at)))), True)
        self.assertEqual(read_question(write_question(Question([term], []))), Question([term], []))
        self.assertEqual(type_of(EVEN, term), ())
        self.assertIs(relation_set(EVEN, "p").has(term), False)
        with self.assertRaises(TooLarge):
            instances_set(term)


class EquationsTest(unittest.TestCase):
    def test_solve(self):
        self.assertEqual(solve([(large("a"), large("a"))]), Solved({}))
        self.assertEqual(solve([(large(X), large(Y))]), Solved({"y": X}))
        found = solve([(X, large("a")), (Y, large("a")), (Z, ("g", (X, Y)))])
        self.assertIs(found.shows([(X, large("a")), (Y, large("a")), (Z, ("g", (X, Y)))]), True)
        self.assertIs(found == solve([(Y, large("a")), (X, large("a")), (Z, ("g", (Y, X)))]), True)
        self.assertIs(found == solve([(X, large("a")), (Y, large("b")), (Z, ("g", (X, Y)))]), False)
        # Copies of shared terms beside one another in one term.
        self.assertIs(Solved({**found.bound, "z": ("g", (large("a"), large("a")))}).shows([(X, large("a")), (Y, large("a")), (Z, ("g", (X, Y)))]), True)

    def test_no_solution(self):
        for pairs in ([(large("a"), large("b"))], [(large("a"), X), (X, large("b"))], [(X, shared(18, X, 3))]):
            paper = solve(pairs)
            self.assertIs(bool(paper), False)
            self.assertIs(paper.shows(pairs), True)
            self.assertIs(paper == solve(pairs), True)
            self.assertIs(paper.shows(pairs[:-1]), False)

    def test_values_and_what_follows(self):
        equations, inequations = [(X, large("a"))], [[(X, large("b"))], [(Y, large("a"))]]
        paper = judge_values(equations, inequations)
        self.assertIs(paper.shows(equations, inequations), True)
        self.assertIs(paper == judge_values([(X, large("a"))], inequations), True)
        self.assertIs(Valued({**paper.ground, "y": large("a")}).shows(equations, inequations), False)
        self.assertEqual(judge_values(equations, inequations + [[(large("a"), X)]]), NoValues(2, None))
        follows = judge_follows(equations, [[(Y, large("b"))]], [(Y, large("b")), (Z, large(X))])
        self.assertEqual(follows.number, 0)
        self.assertIs(follows.shows(equations, [[(Y, large("b"))]], [(Y, large("b"))]), True)
        against = judge_follows(equations, [[(Y, large("b"))]], [(Y, large("a"))])
        self.assertIs(against.shows(equations, [[(Y, large("b"))]], [(Y, large("a"))]), True)

    def test_doubling(self):
        for many in (24, 60, 120):
            equations = doubling(many)
            found = solve(equations)
            self.assertIs(found.shows(equations), True)
            self.assertIs(found == solve(equations), True)
            self.assertEqual(depth(found.bound[many]), (many + 1, ("?", 0)))
            paper = judge_values(equations, [[(("?", many), "a")]])
            self.assertIs(paper.shows(equations, [[(("?", many), "a")]]), True)
        other = [(("?", "z" + str(at + 1)), ("f", (("?", "z" + str(at)), ("?", "z" + str(at))))) for at in range(60)]
        both = doubling(60) + other + [(("?", "z60"), ("?", 60))]
        self.assertEqual(solve(both).bound["z0"], ("?", 0))
        paper = solve(both + [(("?", 0), "a"), (("?", "z0"), "b")])
        self.assertIs(paper.shows(both + [(("?", 0), "a"), (("?", "z0"), "b")]), True)


class EqualTermsTest(unittest.TestCase):
    """Point 25."""

    def steps(self, many, ends):
        found = []
        for end in ends:
            found.append(("same", end))
            for _ in range(many):
                found.append(("inside", "f", (len(found) - 1,) * 2))
        return found

    def test_steps_that_share_their_parts(self):
        steps = self.steps(40, "aa") + [("joined", 40, 81), ("same", "a")]
        self.assertIs(Equal(steps).shows([], ("a", "a")), True)
        self.assertIs(Equal(steps).shows([], ("a", "b")), False)
        self.assertIs(Equal(self.steps(40, "ab") + [("joined", 40, 81), ("same", "a")]).shows([], ("a", "a")), False)
        self.assertIs(Equal(self.steps(40, "aa") + [("joined", 40, 80), ("same", "a")]).shows([], ("a", "a")), False)
        self.assertIs(Equal(self.steps(19, "a")).shows([], (shared(19, "a"), shared(19, "a"))), True)
        self.assertIs(Equal(self.steps(19, "a")).shows([], (shared(19, "a"), spoilt(19, "a", "b", "01" * 9))), False)
        self.assertIs(Equal([("same", shared(199, "a")), ("same", shared(199, "a")), ("joined", 0, 1), ("same", "b")]).shows([], ("b", "b")), True)
        self.assertIs(Equal([("same", shared(199, "a")), ("same", shared(199, "b")), ("joined", 0, 1), ("same", "b")]).shows([], ("b", "b")), False)
        self.assertIs(Equal(steps) == Equal(list(steps)), True)
        self.assertIs(Equal([("same", shared(99, "a"))]) == Equal([("same", shared(99, "a"))]), True)
        self.assertIs(Equal([("same", shared(99, "a"))]) == Equal([("same", shared(99, "b"))]), False)

    def test_judged(self):
        for equations, is_equal in (([("a", "b")], True), ([("a", "c")], False), ([(large("a"), "c"), ("c", large("b"))], True)):
            paper = judge_equal(equations, (large("a"), large("b")))
            self.assertIs(bool(paper), is_equal)
            self.assertIs(paper.shows(equations, (large("a"), large("b"))), True)
            self.assertIs(paper == judge_equal(equations, (large("a"), large("b"))), True)
        self.assertEqual(judge_equal([("a", "c")], (large("a"), large("b"))).state(large("c")), judge_equal([("a", "c")], (large("a"), large("b"))).state(large("a")))

    def test_classes_and_least_terms(self):
        self.assertEqual([len(row) for row in classes_of([("a", "b")], [large("a"), large("b"), large("a"), "a", "c", shared(18, "a", 3)])], [1, 1, 1, 2])
        self.assertIs(Answer([least_equal([("b", "a")], large("b"))], []) == Answer([large("a")], []), True)
        ring = [(large("a"), "c"), ("c", ("g", ("c",)))]
        self.assertEqual(least_equal(ring, large("a")), "c")
        self.assertEqual(equal_terms(ring, large("a"), 3), [("g", (("g", ("c",)),))])
        self.assertIs(are_endless(ring, large("a")), True)
        self.assertIs(are_endless(ring, large("b")), False)


class SignatureTest(unittest.TestCase):
    """Point 26."""

    def setUp(self):
        self.signature = Signature(["a", "b"], {"f": 3, "g": 1})

    def test_has(self):
        self.assertIs(self.signature.has(large(X)), True)
        self.assertIs(self.signature.has(large("c")), False)
        self.assertIs(self.signature.has(shared(19, "a")), False)

    def test_filled(self):
        equations, inequations = [(X, large("a"))], [[(X, large("b"))], [(Y, large("a"))], [(Z, large(X))]]
        paper = judge_filled(self.signature, equations, inequations)
        self.assertIs(paper.shows(self.signature, equations, inequations), True)
        self.assertIs(paper == judge_filled(self.signature, [(X, large("a"))], inequations), True)
        self.assertIs(paper == Filled({**paper.ground, "x": large("b")}), False)
        with self.assertRaises(BadTerm) as caught:
            judge_filled(self.signature, [(X, "a"), (Y, large("c"))], [])
        self.assertEqual(caught.exception.place, 1)

    def test_patterns(self):
        for terms, patterns, kind in (([X], [[large(Y)], [large("a")]], Unmet), ([large(X)], [[large(Z)], [large("a")]], AllMet), ([large(X)], [[large("a")]], Unmet)):
            paper = judge_patterns(self.signature, terms, patterns)
            self.assertIs(type(paper), kind)
            self.assertIs(paper.shows(self.signature, terms, patterns), True)
            self.assertIs(paper == judge_patterns(self.signature, terms, patterns), True)
        self.assertIs(Unmet((large("a"),)) == Unmet((large("b"),)), False)
        self.assertIs(Unmet((large("a"),)).shows(self.signature, [large(X)], [[large("a")]]), False)
        self.assertEqual(needless_patterns(self.signature, [[large(X)], [large("a")], [large(Y)], [large("b")]]), (1, 2, 3))


class ProgramsTest(unittest.TestCase):
    def test_unfolded(self):
        program = Program([Rule(("p", (large("a"),)), []), Rule(("p", (large(X),)), [("p", (X,)), ("unlike", (X, large("b")))]), Rule(("q", (large(X), Y)), [("p", (large(X),)), ("equal", (large(X), Y))])])
        one, other = unfolded(program, 2, 0), unfolded(program, 2, 0)
        self.assertEqual(one.numbers, (0, 1))
        self.assertIs(one == other, True)
        self.assertIs(one.program == program, False)
        self.assertIs(one.program.rules[2] == Rule(("q", (large("a"), ("?", 0))), [("equal", (large("a"), ("?", 0)))]), True)

    def test_needless(self):
        program = Program([Rule(("p", (large(X),)), [("p", (large(Y),)), ("unlike", (large(X), "a"))]), Rule(("p", (large("a"),)), [("p", (large("b"),)), ("unlike", ("a", large("a")))])])
        paper = needless(program, 1)
        self.assertEqual(paper, Needless(0, {"x": "a", "y": "b"}))
        self.assertIs(paper.shows(program, 1), True)
        self.assertIsNone(needless(program, 0))

    def test_falling(self):
        program = Program([Rule(("p", (large("a"),)), [("p", (shared(18, "a", 3),))])])
        self.assertEqual(falling_places(program), {("p", 1): 0})
        self.assertIs(is_falling(program, {("p", 1): 0}), True)
        self.assertEqual(levels_for(program, {("p", 1): 0}, Question([], [("p", (large("a"),))])), 20)
        self.assertEqual(first_standing(Program([Rule(("p", (large("a"),)), [("p", (shared(18, "b", 3),))])]), {("p", 1): 0}), (0, 0))


class StatesTest(unittest.TestCase):
    """Points 29 to 33, 38, 39 and 43."""

    def test_models(self):
        table = {(one, other, third): one & other & third for one in (0, 1) for other in (0, 1) for third in (0, 1)}
        model = Model(2, {"a": 1}, 0, {("f", 3): table}, 0, {("p", 1): [(1,)]})
        self.assertEqual([model.state(large("a"), {}), model.state(large("b"), {}), model.state(large(X), {"x": 1}), model.state(large(X), {X: 0})], [1, 0, 1, 0])
        self.assertIs(model.bars(Question([], [("p", (large("b"),))])), True)
        self.assertIs(model.bars(Question([], [("p", (large(X),))])), False)
        self.assertIs(model.holds(Program([Rule(("p", (large(X),)), [("p", (X,))])])), True)

    def test_shallow(self):
        self.assertEqual([type_of(EVEN, large("a")), type_of(EVEN, large("b"))], [("p",), ()])
        for term, has in ((large(X), True), (large("b"), False)):
            question = Question([], [("p", (term,))])
            paper = judge_shallow(EVEN, question)
            self.assertIs(bool(paper), has)
            self.assertIs(paper.shows(EVEN, question), True)
        self.assertIs(Has({"x": large("a"), "y": large("a")}).shows(EVEN, Question([], [("p", (("f", (X, Y, X)),))])), True)
        self.assertIs(Has({"x": large("a")}) == Has({"x": large("a")}), True)
        self.assertIs(Has({"x": large("a")}) == Has({"x": large("b")}), False)
        with self.assertRaises(TooLarge):
            proof_of(EVEN, "p", large("a"))
        self.assertIsNone(proof_of(EVEN, "p", large("b")))

    def test_chains(self):
        rules = [Rule(("r0", ("a",)), [])]
        for at in range(14):
            rules.append(Rule(("r" + str(at + 1), (("f", (X, Y, Z)),)), [("r" + str(at), (one,)) for one in (X, Y, Z)]))
        program, other = Program(rules), Program(rules[:1])
        self.assertEqual([depth(term) for term in all_terms(program, "r14")], [(15, "a")])
        paper = judge_programs(program, other, "r14")
        self.assertEqual(depth(paper.term), (15, "a"))
        self.assertIs(paper.shows(program, other, "r14"), True)
        self.assertIs(paper == judge_programs(program, other, "r14"), True)
        self.assertIs(paper == OnlyOne(shared(14, "b", 3)), False)

    def test_sets(self):
        one = relation_set(EVEN, "p")
        self.assertIs(one.has(large("a")), True)
        self.assertIs(one.has(large("b")), False)
        self.assertIs(InOne(large("a")).shows(one, others(one)), True)
        self.assertIs(InOne(large("a")) == InOne(large("a")), True)
        self.assertIs(InOne(large("a")) == InOne(large("b")), False)

    def test_patterns(self):
        one = relation_set(EVEN, "p")
        paper = judge_pattern(one, large(X))
        self.assertIs(type(paper), NotIn)
        self.assertIs(paper.shows(one, large(X)), True)
        self.assertIs(bool(judge_pattern(one, large("a"))), True)
        self.assertEqual(some_in(one, large(X)), {"x": "a"})
        self.assertIs(NotIn({"x": large("a"), "y": large("b")}).shows(one, ("f", (X, Y, X))), True)
        self.assertIs(NotIn({"x": large("a"), "y": large("a")}).shows(one, ("f", (X, Y, X))), False)
        self.assertIs(NotIn({"x": large("a")}) == NotIn({"x": large("a")}), True)
        self.assertIs(instances_set(shared(14, "a", 3)).has(shared(14, "a", 3)), True)
        self.assertIs(instances_set(shared(14, "a", 3)).has(shared(14, "b", 3)), False)
        with self.assertRaises(BadTerm):
            instances_set(large(X))


if __name__ == "__main__":
    unittest.main()
