"""[31], [32]: shallow programs."""

import itertools
import random
import unittest

from proofsizes.errors import TooLarge
from proofsizes.models import Model
from proofsizes.programs import Program, Question, Rule
from proofsizes.searching import Spent
from proofsizes.shallow import Has, NotShallow, all_terms, is_empty, is_within, judge_shallow, least_terms, model_of
from proofsizes.shallow import type_of, types
from proofsizes.terms import names_in, parts_of
from tests.plain import put_in
from tests.samples import JOINED, X, Y, Z, wrapped
from tests.shallows import ALL_ROWS, ALL_TERMS, EVEN, NAMES, order_of, random_shallow, slow_types, spoken_of, terms_by_signs
from tests.spoiling import check_spoilt

POOL = [X, Y, "a", "b", ("f", (X,)), ("g", (X, Y)), ("g", (X, X)), ("f", (("f", (Y,)),)), ("h", (X,)), ("g", ("a", ("f", (X,))))]
NOT_SHALLOW = [
    Rule(("p", ()), []), Rule(("p", (X, Y)), []), Rule(("p", (("f", (X, X)),)), []), Rule(("p", (("f", ("a",)),)), []),
    Rule(("p", (("f", (X, ("g", (Y,)))),)), []), Rule(("p", (X,)), [("q", ("a",))]), Rule(("p", (X,)), [("q", (("f", (X,)),))]),
    Rule(("p", (X,)), [("q", (X, Y))]), Rule(("p", (X,)), [("q", ())]), Rule(("p", (X,)), [("equal", (X, Y))]), Rule(("p", (X,)), [("unlike", (X, Y))]),
]


def letters(many):
    """A program with a relation for each of some constants."""
    return Program([Rule(("p" + str(at), ("c" + str(at),)), []) for at in range(many)])


def bits(many):
    """A program in which all sets of some labels are types."""
    rules = [Rule(("p" + str(at), ("c" + str(at),)), []) for at in range(many)]
    for at in range(many):
        rules.append(Rule(("p" + str(at), (("f", (X, Y)),)), [("p" + str(at), (X,))]))
        rules.append(Rule(("p" + str(at), (("f", (X, Y)),)), [("p" + str(at), (Y,))]))
    return Program(rules)


class TypesTest(unittest.TestCase):
    def test_by_hand(self):
        self.assertEqual(types(EVEN), ((), ("even", "nat"), ("nat", "odd")))
        self.assertEqual(type_of(EVEN, wrapped(7, 0)), ("nat", "odd"))
        self.assertEqual(type_of(EVEN, wrapped(8, 0)), ("even", "nat"))
        for term in (1, "a", ("t", (0,)), ("s", (0, 0)), wrapped(3, "a")):
            self.assertEqual(type_of(EVEN, term), ())
        self.assertEqual(types(Program([])), ((),))
        self.assertEqual(types(Program([Rule(("all", (X,)), [])])), (("all",),))
        self.assertEqual(type_of(Program([Rule(("all", (X,)), [])]), ("f", ("a",))), ("all",))

    def test_unknowns_elsewhere(self):
        rules = [Rule(("p", ("a",)), [("q", (X,)), ("r", (X,))]), Rule(("q", ("b",)), []), Rule(("r", ("c",)), [])]
        self.assertEqual(types(Program(rules)), ((), ("q",), ("r",)))
        rules.append(Rule(("r", (("f", (Y,)),)), [("q", (Y,)), ("s", (Z,))]))
        rules.append(Rule(("q", (X,)), [("r", (X,)), ("s", (Y,))]))
        self.assertEqual(types(Program(rules)), ((), ("q",), ("r",)))
        rules.append(Rule(("s", ("d",)), [("q", (X,))]))
        self.assertEqual(types(Program(rules)), ((), ("p",), ("q",), ("q", "r"), ("s",)))
        self.assertEqual(type_of(Program(rules), "a"), ("p",))

    def test_a_goal_that_asks_itself(self):
        # Nothing has the relation ahead of it, so nothing ever has it.
        self.assertEqual(types(Program([Rule(("p", ("a",)), [("p", (X,))]), Rule(("p", (X,)), [("p", (X,))])])), ((),))

    def test_random_against_small_terms(self):
        source = random.Random(641)
        for _ in range(60):
            program = random_shallow(source)
            found = slow_types(program, ALL_TERMS)
            self.assertLessEqual({tuple(sorted(names)) for names in found.values()}, set(types(program)))
            self.assertEqual(list(types(program)), sorted(set(types(program))))
            for term in ALL_ROWS[1] + source.sample(ALL_TERMS, 25):
                self.assertEqual(type_of(program, term), tuple(sorted(found[term])))

    def test_models(self):
        model = model_of(EVEN)
        self.assertEqual(model, Model(3, {0: 1}, 0, {("s", 1): {(0,): 0, (1,): 2, (2,): 1}}, 0, {("even", 1): [(1,)], ("nat", 1): [(1,), (2,)], ("odd", 1): [(2,)]}))
        never = Program([Rule(("p", ("a",)), [("q", (X,))]), Rule(("r", (("f", (X, Y)),)), [("r", (X,))])])
        self.assertEqual(model_of(never), Model(1, {"a": 0}, 0, {("f", 2): {(0, 0): 0}}, 0, {}))
        source = random.Random(643)
        for _ in range(60):
            program = random_shallow(source)
            model = model_of(program)
            self.assertIs(model.holds(program), True)
            self.assertEqual(model.many, len(types(program)))
            self.assertEqual((model.other, model.beyond), (types(program).index(type_of(program, "zz")),) * 2)
            constants, compounds = spoken_of(program)
            self.assertEqual((sorted(model.constants, key=str), sorted(model.compounds)), (sorted(constants, key=str), compounds))
            for (name, many), rows in model.relations.items():
                self.assertEqual((many, rows), (1, tuple((at,) for at, one in enumerate(types(program)) if name in one)))
            for term in source.sample(ALL_TERMS, 10):
                self.assertEqual(types(program)[model.state(term, {})], type_of(program, term))

    def test_16_and_17_types(self):
        self.assertEqual(len(types(letters(15))), 16)
        for call in (types, model_of, least_terms, lambda program: type_of(program, 0), lambda program: is_empty(program, "p"),
                     lambda program: is_within(program, "p", "q"), lambda program: all_terms(program, "p0"),
                     lambda program: judge_shallow(program, Question([], [])), lambda program: Has({}).shows(program, Question([], []))):
            self.large(17, call, letters(16))
            self.large(32, call, bits(5))
        self.assertEqual(len(types(bits(4))), 16)

    def test_a_round_with_too_many_types(self):
        # What the last rules ask elsewhere is so from the second round on.
        rules = list(letters(14).rules) + [Rule(("q", ("d",)), [("p0", (X,))]), Rule(("r", ("e",)), [("p1", (X,))])]
        self.large(17, types, Program(rules))

    def test_5000_rows_of_types(self):
        for parts, let in ((12, True), (13, False)):
            unknowns = tuple(("?", at) for at in range(parts))
            program = Program([Rule(("p", ("a",)), []), Rule(("p", (("f", unknowns),)), [("p", (unknowns[-1],))])])
            if let:
                self.assertEqual(len(model_of(program).compounds["f", parts]), 2 ** 12)
                self.assertEqual(type_of(program, ("f", ("b",) * 11 + ("a",))), ("p",))
            else:
                self.large(2 ** 13, types, program)
        four = Rule(("q", (("f", tuple(("?", at) for at in range(4))),)), [])
        self.assertEqual(len(types(Program(list(letters(6).rules) + [four]))), 8)
        self.large(9 ** 4, types, Program(list(letters(7).rules) + [four]))

    def large(self, number, call, *arguments):
        with self.assertRaises(TooLarge) as caught:
            call(*arguments)
        self.assertEqual(caught.exception.number, number)


class NotShallowTest(unittest.TestCase):
    def bad(self, number, call, *arguments):
        with self.assertRaises(NotShallow, msg=arguments) as caught:
            call(*arguments)
        self.assertEqual(caught.exception.number, number)

    def test_rules(self):
        calls = [types, model_of, least_terms, lambda program: type_of(program, X), lambda program: is_empty(program, "p"),
                 lambda program: is_within(program, "p", "q"), lambda program: all_terms(program, "p"),
                 lambda program: judge_shallow(program, Question([], [("p", ())])), lambda program: Has({}).shows(program, Question([], [("p", ())]))]
        for call in calls:
            for rule in NOT_SHALLOW:
                self.bad(2, call, Program(list(EVEN.rules[:2]) + [rule, NOT_SHALLOW[0]] + list(letters(12).rules)))
            self.bad(0, call, JOINED)

    def test_terms(self):
        for term in (X, ("f", (X,)), None, True, "Abc", ("f", ()), ["a"], wrapped(20, 0), ("f", ("a", None))):
            self.bad(None, type_of, EVEN, term)
            self.bad(None, type_of, letters(16), term)
        self.assertEqual(type_of(EVEN, wrapped(19, 0)), ("nat", "odd"))

    def test_questions(self):
        for goal in (("p", ()), ("p", (X, Y)), ("equal", (X, Y)), ("unlike", (X, "a"))):
            question = Question([], [("even", (X,)), goal])
            self.bad(None, judge_shallow, EVEN, question)
            self.bad(None, Has({"x": 0}).shows, EVEN, question)
            self.bad(None, judge_shallow, letters(16), question)


class JudgeTest(unittest.TestCase):
    def has(self, program, question):
        paper = judge_shallow(program, question)
        self.assertIsInstance(paper, Has)
        self.assertIs(bool(paper), True)
        self.assertIs(paper.shows(program, question), True)
        return paper.terms

    def barred(self, program, question):
        paper = judge_shallow(program, question)
        self.assertIsInstance(paper, Model)
        self.assertIs(bool(paper), False)
        self.assertIs(paper.shows(program, question), True)

    def test_by_hand(self):
        self.assertEqual(self.has(EVEN, Question([Z], [("odd", (X,)), ("even", (wrapped(3, Y),))])), {"x": wrapped(1, 0), "y": wrapped(1, 0)})
        self.barred(EVEN, Question([], [("odd", (X,)), ("odd", (wrapped(3, X),))]))
        self.barred(EVEN, Question([], [("other", (X,))]))
        self.barred(EVEN, Question([], [("even", ("a",))]))
        self.barred(EVEN, Question([], [("even", (("t", (X,)),))]))
        self.assertEqual(self.has(EVEN, Question([X], [])), {})
        self.assertEqual(self.has(EVEN, Question([X], [("nat", (0,))])), {})
        self.assertEqual(self.has(Program([Rule(("p", (("f", (X,)),)), [])]), Question([], [("p", (("f", (("h", (Y,)),)),))])), {"y": 0})

    def test_unknowns_ascend_as_texts(self):
        names = ["x", 10, 9, "b1", 2]
        question = Question([], [("nat", (("?", name),)) for name in names])
        self.assertEqual(list(self.has(EVEN, question)), [10, 2, 9, "b1", "x"])

    def test_many_unknowns(self):
        wide = tuple(("?", at) for at in range(40))
        program = Program([Rule(("p", (("f", (X, Y)),)), [("p", (X,))]), Rule(("p", ("a",)), []), Rule(("q", (X,)), [])])
        deep = "a"
        for at in range(19):
            deep = ("f", (deep, ("?", at)))
        self.assertEqual(len(self.has(program, Question([], [("p", (deep,)), ("q", (("h", wide),))]))), 40)
        deep = "b"
        for at in range(19):
            deep = ("f", (deep, ("?", at)))
        paper = judge_shallow(program, Question([], [("p", (deep,))]))
        self.assertIsInstance(paper, Model)
        self.assertIs(paper.holds(program), True)
        twice = [("f", (("?", at), ("?", at))) for at in range(6)]
        self.barred(program, Question([], [("p", (one,)) for one in twice[:5]] + [("p", (("h", (twice[5],)),))]))

    def test_random(self):
        source = random.Random(647)
        kinds = {True: 0, False: 0}
        small = [term for row in ALL_ROWS[:4] for term in row]
        for _ in range(60):
            program = random_shallow(source)
            model = model_of(program)
            met = types(program)
            for _ in range(5):
                question = Question([], [(source.choice(NAMES), (source.choice(POOL),)) for _ in range(source.randrange(0, 4))])
                names = names_in([goal[1][0] for goal in question.goals])
                rows = itertools.product(small, repeat=len(names))
                finds = any(all(name in met[model.state(put_in(term, dict(zip(names, row))), {})] for name, (term,) in question.goals) for row in rows)
                paper = judge_shallow(program, question)
                self.assertIs(paper.shows(program, question), True)
                kinds[bool(paper)] += 1
                if finds:
                    self.assertIsInstance(paper, Has)
                if paper:
                    self.assertEqual(sorted(paper.terms), sorted(names))
        self.assertGreater(min(kinds.values()), 30)

    def test_equal(self):
        self.assertEqual(Has({"x": 0}), Has({"x": 0}))
        for other in (Has({"x": 1}), Has({}), Spent(0), None, {"x": 0}):
            self.assertNotEqual(Has({"x": 0}), other)

    def test_wrong_papers(self):
        question = Question([], [("odd", (X,)), ("even", (wrapped(1, Y),))])
        self.assertIs(Has({"x": wrapped(3, 0), "y": wrapped(5, 0)}).shows(EVEN, question), True)
        self.assertIs(Has({"y": wrapped(151, 0), "x": wrapped(1, 0)}).shows(EVEN, question), True)
        for terms in ({}, {"x": wrapped(1, 0)}, {"x": wrapped(2, 0), "y": wrapped(1, 0)}, {"x": wrapped(1, 0), "y": 0}, {"x": wrapped(1, 0), "y": wrapped(1, X)},
                      {"x": wrapped(1, 0), "y": wrapped(1, 0), "z": 0}, None, (), 7):
            self.assertIs(Has(terms).shows(EVEN, question), False)

    def test_spoilt(self):
        question = Question([], [("odd", (X,)), ("even", (wrapped(1, ("?", 0)),))])
        self.assertGreater(check_spoilt(self, judge_shallow(EVEN, question), (EVEN, question)), 100)
        check_spoilt(self, Has({}), (EVEN, Question([], [])))

    def test_arguments_are_not_kept(self):
        terms = {"x": wrapped(1, 0)}
        paper = Has(terms)
        terms["y"] = 0
        self.assertEqual(paper.terms, {"x": wrapped(1, 0)})


class TermsTest(unittest.TestCase):
    def test_least_terms(self):
        self.assertEqual(least_terms(EVEN), {(): 1, ("even", "nat"): 0, ("nat", "odd"): wrapped(1, 0)})
        self.assertEqual(list(least_terms(EVEN)), list(types(EVEN)))
        self.assertEqual(least_terms(Program([])), {(): 0})
        some = Program([Rule(("p", (one,)), []) for one in (0, 1, -5, "a")] + [Rule(("q", (("f", (X, Y)),)), [("p", (X,)), ("p", (Y,))]), Rule(("q", (("e", (X,)),)), [])])
        self.assertEqual(least_terms(some), {(): 2, ("p",): -5, ("q",): ("e", (-5,))})

    def test_least_terms_in_the_order_of_terms(self):
        # Both have five signs: the first part of the one is a constant.
        program = Program([Rule(("p", (("f", (X, Y)),)), [("q", (X,))]), Rule(("q", (("g", (X, Y)),)), []), Rule(("p", (("f", (X, Y)),)), [("q", (Y,))])])
        self.assertEqual(least_terms(program)[("p",)], ("f", (0, ("g", (0, 0)))))

    def test_random_least_terms(self):
        source = random.Random(653)
        for _ in range(60):
            program = random_shallow(source)
            constants, compounds = spoken_of(program)
            fresh = min(one for one in range(9) if one not in constants)
            model, met, least = model_of(program), types(program), least_terms(program)
            first = {}
            for row in terms_by_signs(constants + [fresh], compounds, 6):
                for term in sorted(row, key=order_of):
                    first.setdefault(met[model.state(term, {})], term)
            self.assertEqual({one: least[one] for one in first}, first)
            for one in least:
                self.assertEqual(type_of(program, least[one]), one)

    def test_large_least_terms(self):
        rules = [Rule(("p0", ("a",)), [])]
        for at in range(14):
            rules.append(Rule(("p" + str(at + 1), (("f", (X, Y)),)), [("p" + str(at), (X,)), ("p" + str(at), (Y,))]))
        self.assertEqual(len(parts_of(least_terms(Program(rules))[("p14",)])), 2 ** 15 - 1)

    def test_within_and_empty(self):
        self.assertIs(is_within(EVEN, "even", "nat"), True)
        self.assertIs(is_within(EVEN, "nat", "even"), False)
        self.assertIs(is_within(EVEN, "other", "even"), True)
        self.assertIs(is_within(EVEN, "even", "other"), False)
        self.assertIs(is_empty(EVEN, "even"), False)
        self.assertIs(is_empty(EVEN, "other"), True)
        both = Program(list(EVEN.rules) + [Rule(("both", (X,)), [("even", (X,)), ("odd", (X,))]), Rule(("all", (X,)), [])])
        self.assertIs(is_empty(both, "both"), True)
        self.assertIs(is_within(both, "both", "odd"), True)
        self.assertIs(is_within(both, "all", "nat"), False)

    def test_all_terms(self):
        self.assertIsNone(all_terms(EVEN, "even"))
        self.assertEqual(all_terms(EVEN, "other"), [])
        some = Program(
            [Rule(("p", (one,)), []) for one in ("b", 7, "a")]
            + [Rule(("q", (("f", (X, Y)),)), [("p", (X,)), ("p", (Y,))]), Rule(("q", (X,)), [("p", (X,))]), Rule(("r", (("g", (X,)),)), []), Rule(("q", (("e", (X,)),)), [("q", (Y,)), ("p", (X,))])]
        )
        self.assertEqual(all_terms(some, "p"), [7, "a", "b"])
        pairs = [("f", row) for row in itertools.product([7, "a", "b"], repeat=2)]
        self.assertEqual(all_terms(some, "q"), [7, "a", "b"] + [("e", (one,)) for one in (7, "a", "b")] + pairs)
        self.assertIsNone(all_terms(some, "r"))
        self.assertIsNone(all_terms(Program([Rule(("p", (X,)), [])]), "p"))
        all_terms(some, "p").append(None)
        self.assertEqual(all_terms(some, "p"), [7, "a", "b"])

    def test_random_all_terms(self):
        source = random.Random(659)
        kinds = {True: 0, False: 0}
        for _ in range(120):
            program = random_shallow(source)
            constants, compounds = spoken_of(program)
            model, met = model_of(program), types(program)
            rows = terms_by_signs(constants + ["fresh"], compounds, 6)
            for name in NAMES:
                small = [term for row in rows for term in row if name in met[model.state(term, {})]]
                told = all_terms(program, name)
                kinds[told is None] += 1
                if told is not None:
                    self.assertEqual([term for term in told if len(parts_of(term)) <= 6], sorted(small, key=order_of))
                    self.assertTrue(all(name in type_of(program, term) for term in told[:20] if len(parts_of(term)) < 20))
                elif "fresh" not in [part for term in small for part in parts_of(term)]:
                    # Endless many terms without other constants: compounds stand within themselves.
                    self.assertTrue(compounds)
        self.assertGreater(min(kinds.values()), 30)

    def test_2000_terms_and_more(self):
        rules = [Rule(("p", (one,)), []) for one in range(12)]
        three = Rule(("q", (("f", (X, Y, Z)),)), [("p", (X,)), ("p", (Y,)), ("p", (Z,))])
        self.assertEqual(len(all_terms(Program(rules + [three]), "q")), 1728)
        more = [Rule(("p", (12,)), []), three]
        self.large(13 ** 3, Program(rules + more), "q")
        # A type that is met within, and all terms of several types together.
        self.large(13 ** 3, Program(rules + more + [Rule(("r", (("g", (X,)),)), [("q", (X,))])]), "r")
        both = Program(rules + [three, Rule(("r", (("g", (X,)),)), [("q", (X,))]), Rule(("s", (X,)), [("q", (X,))]), Rule(("s", (X,)), [("r", (X,))])])
        self.assertEqual(len(all_terms(both, "r")), 1728)
        self.large(2 * 1728, both, "s")
        # Endless many are told ahead.
        self.assertIsNone(all_terms(Program(rules + more + [Rule(("q", (("g", (X,)),)), [("q", (X,))])]), "q"))

    def large(self, number, program, name):
        with self.assertRaises(TooLarge) as caught:
            all_terms(program, name)
        self.assertEqual(caught.exception.number, number)


if __name__ == "__main__":
    unittest.main()
