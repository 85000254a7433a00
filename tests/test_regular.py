"""[39], [40]: sets of terms."""

import itertools
import random
import unittest

from proofsizes.errors import TooLarge
from proofsizes.models import BadModel
from proofsizes.differing import judge_programs
from proofsizes.patterns import judge_pattern
from proofsizes.programs import Program, Question, Rule
from proofsizes.regular import Fewest, InOne, SameSet, TermSet, both, either, fewest, judge_sets, least_set, others
from proofsizes.regular import relation_set
from proofsizes.searching import Spent
from proofsizes.shallow import Has, NotShallow, judge_shallow, least_terms, model_of, type_of
from proofsizes.terms import has_unknown, names_in, parts_of
from tests.plain import put_in
from tests.samples import X, Y, Z, wrapped
from tests.shallows import ALL_TERMS, EVEN, NAMES, order_of, random_set, random_shallow, terms_by_signs
from tests.spoiling import check_spoilt
from tests.test_shallow import NOT_SHALLOW, bits, letters

PARTS = {"many": 2, "constants": {0: 1}, "compounds": {("s", 1): {(0,): 0, (1,): 1}}, "other": 0, "good": [1]}
NATS = TermSet(**PARTS)
NONE, ALL = TermSet(1, {}, {}, 0, ()), TermSet(1, {}, {}, 0, (0,))


def counted(many, good):
    """The set of the terms of so many compounds around 0, up to some number."""
    return TermSet(many + 1, {0: 0}, {("s", 1): {(at,): (at + 1) % many if at < many else many for at in range(many + 1)}}, many, good)


class TermSetTest(unittest.TestCase):
    def test_attributes(self):
        constants, table = {"a": 1, 0: 0}, {(0,): 1, (1,): 0}
        one = TermSet(2, constants, {("s", 1): table}, 1, [1, 0, 1])
        self.assertEqual((one.many, one.constants, one.compounds, one.other, one.good), (2, {"a": 1, 0: 0}, {("s", 1): {(0,): 1, (1,): 0}}, 1, (0, 1)))
        constants["b"] = 0
        table[0,] = 0
        self.assertEqual(one, TermSet(2, {"a": 1, 0: 0}, {("s", 1): {(0,): 1, (1,): 0}}, 1, (0, 1)))

    def test_equal(self):
        self.assertEqual(NATS, TermSet(**PARTS))
        for change in ({"constants": {0: 0}}, {"constants": {}}, {"compounds": {}}, {"other": 1}, {"good": []}, {"good": [0]}):
            self.assertNotEqual(NATS, TermSet(**{**PARTS, **change}))
        self.assertNotEqual(NONE, TermSet(2, {}, {}, 0, ()))
        for other in (None, 2, PARTS, Spent(0), EVEN):
            self.assertNotEqual(NATS, other)

    def test_states(self):
        self.assertEqual([NATS.state(term) for term in (0, 1, "a", wrapped(5, 0), wrapped(5, 1), ("s", (0, 0)), ("t", (0,)))], [1, 0, 0, 1, 0, 0, 0])
        self.assertIs(NATS.has(wrapped(190, 0)), True)
        self.assertIs(NATS.has(wrapped(190, "x")), False)
        self.assertIs(NONE.has("a"), False)
        self.assertIs(ALL.has(("f", ("a",))), True)

    def bad(self, part, **change):
        with self.assertRaises(BadModel, msg=change) as caught:
            TermSet(**{**PARTS, **change})
        self.assertEqual(caught.exception.part, part, change)

    def test_bad_parts(self):
        for many in (0, 17, True, None, "2"):
            self.bad("many", many=many)
        for constants in (None, ["a"], {"A": 0}, {True: 0}, {("?", "x"): 0}, {"a": 2}, {"a": None}, {"a": True}):
            self.bad("constants", constants=constants)
        full = {(0,): 0, (1,): 1}
        for compounds in (None, {"s": full}, {("s", 0): {(): 0}}, {("s", 2): full}, {("s", 1): {(0,): 0}}, {("s", 1): [0, 1]}, {("S", 1): full}, {("s", 1): {(0,): 0, (1,): 2}},
                          {("s", 1): {(0,): 0, (1,): None}}, {("s", 1): {(0,): False, (1,): 1}}):
            self.bad("compounds", compounds=compounds)
        for state in (2, -1, None, True, "0"):
            self.bad("other", other=state)
        for good in (None, 0, {0: True}, [2], [None], [True], [(0,)], "0"):
            self.bad("good", good=good)

    def test_the_first_one_first(self):
        wrong = {"many": 0, "constants": {None: None}, "compounds": None, "other": 9, "good": 9}
        self.bad("many", **wrong)
        wrong["many"] = 2
        self.bad("constants", **wrong)
        wrong["constants"] = {"a": 9}
        self.bad("compounds", **wrong)
        wrong["compounds"] = {("s", 1): {(0,): 9, (1,): 0}}
        self.bad("constants", **wrong)
        wrong["constants"] = {}
        self.bad("other", **wrong)
        wrong["other"] = 0
        self.bad("good", **wrong)
        wrong["good"] = ()
        self.bad("compounds", **wrong)

    def test_16_states(self):
        one = TermSet(16, {0: 15}, {("s", 1): {(at,): (at + 1) % 16 for at in range(16)}}, 3, [0])
        self.assertEqual(one.state(wrapped(3, 0)), 2)
        self.assertIs(one.has(wrapped(1, 0)), True)


class TogetherTest(unittest.TestCase):
    def test_relation_set(self):
        evens = relation_set(EVEN, "even")
        self.assertEqual(evens, TermSet(3, {0: 1}, {("s", 1): {(0,): 0, (1,): 2, (2,): 1}}, 0, (1,)))
        self.assertEqual(relation_set(EVEN, "other").good, ())
        source = random.Random(769)
        for _ in range(30):
            program = random_shallow(source)
            for name in NAMES:
                one = relation_set(program, name)
                for term in source.sample(ALL_TERMS, 10):
                    self.assertIs(one.has(term), name in type_of(program, term))

    def test_random(self):
        source = random.Random(773)
        for _ in range(150):
            one, other = random_set(source), random_set(source)
            meet, join, rest = both(one, other), either(one, other), others(one)
            for term in source.sample(ALL_TERMS, 60):
                self.assertIs(meet.has(term), one.has(term) and other.has(term))
                self.assertIs(join.has(term), one.has(term) or other.has(term))
                self.assertIs(rest.has(term), not one.has(term))

    def test_none_and_all(self):
        for one in (NATS, NONE, ALL):
            self.assertTrue(judge_sets(both(one, ALL), one))
            self.assertTrue(judge_sets(either(one, NONE), one))
            self.assertTrue(judge_sets(both(one, others(one)), NONE))
            self.assertTrue(judge_sets(either(one, others(one)), ALL))
            self.assertTrue(judge_sets(others(others(one)), one))

    def test_16_pairs_and_more(self):
        # Pairs of numbers modulo two other ones, and that of all other terms.
        for first, second, pairs in ((3, 5, 16), (15, 3, 16), (4, 5, 21), (2, 9, 19), (15, 14, 211)):
            one, other = counted(first, [0]), counted(second, [0])
            for call in (both, either, judge_sets):
                if pairs == 16:
                    self.assertIsNotNone(call(one, other))
                else:
                    self.large(pairs, call, one, other)

    def test_pairs_that_terms_have_alone_count(self):
        # Eight states each, of which no ground term has all but one.
        one = TermSet(8, {}, {("s", 1): {(at,): at for at in range(8)}}, 3, [3])
        other = TermSet(8, {}, {("s", 1): {(at,): at for at in range(8)}}, 5, [5])
        self.assertEqual(both(one, other).many, 1)
        self.assertEqual(judge_sets(one, other), SameSet())

    def test_5000_rows_and_more(self):
        for parts, states, let in ((4, 8, True), (4, 9, False), (3, 16, True), (12, 2, True), (13, 2, False)):
            constants = {at: at for at in range(states)}
            table = {row: 0 for row in itertools.product(range(states), repeat=parts)}
            one = TermSet(states, constants, {("f", parts): table}, 0, [0])
            for call in (both, either):
                if let:
                    self.assertEqual(call(one, ALL).many, states)
                else:
                    self.large(states ** parts, call, one, ALL)
                    self.large(states ** parts, call, ALL, one)
            self.assertEqual(judge_sets(one, one), SameSet())

    def test_many_rows_of_pairs(self):
        # The pairs are told without going through all rows of pairs, of which there are 4 ** 11.
        table = {row: row[0] for row in itertools.product(range(2), repeat=11)}
        other = {row: row[-1] for row in itertools.product(range(2), repeat=11)}
        one, two = TermSet(2, {"a": 1}, {("f", 11): table}, 0, [1]), TermSet(2, {"b": 1}, {("f", 11): other}, 0, [1])
        self.assertFalse(judge_sets(one, two))
        self.large(4 ** 11, both, one, two)

    def large(self, number, call, *arguments):
        with self.assertRaises(TooLarge) as caught:
            call(*arguments)
        self.assertEqual(caught.exception.number, number)

    def test_errors_as_of_types(self):
        for rule in NOT_SHALLOW:
            with self.assertRaises(NotShallow) as caught:
                relation_set(Program([EVEN.rules[0], rule, rule]), "p")
            self.assertEqual(caught.exception.number, 1)
        self.large(17, relation_set, letters(16), "p0")
        self.large(32, relation_set, bits(5), "p0")


class JudgeTest(unittest.TestCase):
    def test_random(self):
        source = random.Random(787)
        kinds = {True: 0, False: 0}
        for at in range(300):
            one = random_set(source, 3)
            other = random_set(source, 3) if at % 3 else both(either(one, random_set(source, 1)), ALL)
            paper = judge_sets(one, other)
            kinds[bool(paper)] += 1
            self.assertIs(paper.shows(one, other), True)
            if paper:
                self.assertTrue(all(one.has(term) == other.has(term) for term in ALL_TERMS))
            else:
                self.assertIsInstance(paper, InOne)
                self.assertNotEqual(one.has(paper.term), other.has(paper.term))
                self.assertIs(SameSet().shows(one, other), False)
            self.assertEqual(bool(paper), least_set(one) == least_set(other))
        self.assertGreater(min(kinds.values()), 50)

    def test_equal(self):
        self.assertEqual(SameSet(), SameSet())
        self.assertEqual(InOne("a"), InOne("a"))
        for other in (InOne("b"), SameSet(), Spent(0), None):
            self.assertNotEqual(InOne("a"), other)
        for other in (InOne("b"), Spent(0), None, True):
            self.assertNotEqual(SameSet(), other)

    def test_wrong_papers(self):
        one, other = counted(2, [0]), counted(3, [0])
        for term in (0, "a", wrapped(6, 0), wrapped(1, 0), X, wrapped(2, X), None, ("s", ())):
            self.assertIs(InOne(term).shows(one, other), False)
        for term in (wrapped(2, 0), wrapped(9, 0), wrapped(182, 0)):
            self.assertIs(InOne(term).shows(one, other), True)

    def test_spoilt(self):
        one, other = counted(2, [0]), counted(3, [0])
        self.assertGreater(check_spoilt(self, judge_sets(one, other), (one, other)), 50)
        check_spoilt(self, SameSet(), (one, one))
        least, paper = fewest(counted(3, [0]))
        self.assertGreater(check_spoilt(self, paper, (least,)), 500)


class LeastTest(unittest.TestCase):
    def test_by_hand(self):
        self.assertEqual(least_set(NONE), NONE)
        self.assertEqual(least_set(ALL), ALL)
        self.assertEqual(least_set(TermSet(5, {"a": 2}, {("f", 1): {(at,): at for at in range(5)}}, 1, [1, 2])), ALL)
        # Numbered by the least terms: 0, and 1 of which the set doesn't tell.
        self.assertEqual(least_set(NATS), TermSet(2, {0: 0}, {("s", 1): {(0,): 0, (1,): 1}}, 1, [0]))
        below = TermSet(2, {"a": 1}, {}, 0, [1])
        self.assertEqual(least_set(below), TermSet(2, {"a": 1}, {}, 0, [1]))
        self.assertEqual(least_set(TermSet(2, {-7: 1}, {}, 0, [1])), TermSet(2, {-7: 0}, {}, 1, [0]))

    def test_states_that_no_ground_term_has(self):
        one = TermSet(4, {0: 1}, {("s", 1): {(0,): 0, (1,): 1, (2,): 3, (3,): 2}, ("t", 1): {(0,): 0, (1,): 0, (2,): 1, (3,): 1}}, 0, [1, 3])
        self.assertEqual(least_set(one), least_set(NATS))

    def test_six_states_that_come_to_three(self):
        six = TermSet(7, {0: 0}, {("s", 1): {(at,): (at + 1) % 6 if at < 6 else 6 for at in range(7)}}, 6, [0, 3])
        self.assertEqual(least_set(six), least_set(counted(3, [0])))
        self.assertEqual(least_set(six).many, 4)

    def test_random(self):
        source = random.Random(797)
        for _ in range(150):
            one = random_set(source, 5)
            least, paper = fewest(one)
            self.assertEqual(least, least_set(one))
            self.assertLessEqual(least.many, one.many)
            self.assertTrue(all(one.has(term) == least.has(term) for term in source.sample(ALL_TERMS, 100)))
            self.assertIs(paper.shows(least), True)
            self.assertEqual(least_set(least), least)
            for worth in least.constants.values():
                self.assertNotEqual(worth, least.other)
            for table in least.compounds.values():
                self.assertNotEqual(set(table.values()), {least.other})
            self.check_numbers(least, paper)
            # A set with the same terms, in another form, has the same least form.
            other = both(either(one, both(one, random_set(source, 2))), ALL)
            self.assertEqual(least_set(other), least)

    def check_numbers(self, least, paper):
        """Asks that states are numbered by their least terms."""
        terms = [paper.terms[state] for state in range(least.many)]
        self.assertEqual(terms, sorted(terms, key=order_of))
        fresh = min(one for one in range(9) if one not in least.constants)
        first = {}
        for row in terms_by_signs(list(least.constants) + [fresh], sorted(least.compounds), 5):
            for term in sorted(row, key=order_of):
                first.setdefault(least.state(term), term)
        self.assertEqual({state: paper.terms[state] for state in first}, first)


def threefold(many, name="f"):
    """A program with relations in a row, each of the compounds of three terms of the one ahead."""
    parts = (X, Y, Z)
    rules = [Rule(("r0", ("a",)), [])]
    for at in range(many):
        rules.append(Rule(("r" + str(at + 1), ((name, parts),)), [("r" + str(at), (part,)) for part in parts]))
    return Program(rules)


class SharedTest(unittest.TestCase):
    """Terms of some millions of signs, which share their parts."""

    def test_fewest(self):
        least, paper = fewest(relation_set(threefold(14), "r14"))
        self.assertEqual(least.many, 16)
        self.assertEqual(list(paper.terms), list(range(16)))
        self.assertEqual(list(paper.parting), list(itertools.combinations(range(16), 2)))
        self.assertIs(paper.shows(least), True)
        self.assertEqual([least.state(paper.terms[state]) for state in range(16)], list(range(16)))
        for (one, other), context in list(paper.parting.items())[::24]:
            self.assertNotEqual(*[least.has(put_in_first(context, paper.terms[state])) for state in (one, other)])
        again = fewest(relation_set(threefold(14), "r14"))
        self.assertEqual(again[0], least)
        self.assertIs(again[1] == paper, True)
        self.check_wrong(least, paper)

    def check_wrong(self, least, paper):
        terms, parting = paper.terms, paper.parting
        deepest = max(list(parting)[::9], key=lambda pair: depth_of(parting[pair]))
        self.assertGreater(depth_of(parting[deepest]), 3)
        for wrong_terms, wrong_parting in (
            ({**terms, 15: terms[14]}, parting), ({**terms, 15: ("f", (terms[14], terms[14], X))}, parting), ({**terms, 15: ("f", (terms[14],) * 2)}, parting),
            ({**terms, 15: ("f", (terms[14], None, terms[14]))}, parting), (terms, {**parting, deepest: ("?", 0)}), (terms, {**parting, deepest: put_in_first(parting[deepest], X)}),
            (terms, {**parting, deepest: ("f", (parting[deepest],) * 3)}), (terms, {**parting, deepest: terms[15]}),
        ):
            self.assertIs(Fewest(wrong_terms, wrong_parting).shows(least), False)
            self.assertIs(Fewest(wrong_terms, wrong_parting) == paper, False)

    def test_sets(self):
        one = relation_set(threefold(14), "r14")
        paper = judge_sets(one, both(one, others(one)))
        self.assertIs(paper.shows(one, NONE), True)
        self.assertIs(paper.shows(one, one), False)
        self.assertIs(one.has(paper.term), True)
        self.assertIs(InOne(("f", (paper.term, 0, 0))).shows(one, NONE), False)
        self.assertIs(InOne(("f", (paper.term, X, 0))).shows(one, NONE), False)

    def test_types_and_questions(self):
        program = threefold(14)
        deep = least_terms(program)["r14",]
        self.assertEqual(type_of(program, deep), ("r14",))
        question = Question([], [("r14", (X,)), ("r14", (("f", (Y, Y, Z)),))])
        paper = judge_shallow(program, question)
        self.assertIs(paper.shows(program, question), True)
        self.assertIs(Has({**paper.terms, "x": 0}).shows(program, question), False)
        self.assertEqual(model_of(program).state(("f", (X, deep, deep)), {"x": 0, X: 0}), 0)
        out = judge_programs(threefold(7), threefold(6), "r7")
        self.assertIs(out.shows(threefold(7), threefold(6), "r7"), True)
        paper = judge_pattern(others(relation_set(program, "r14")), X)
        self.assertIs(paper.shows(others(relation_set(program, "r14")), X), True)


def depth_of(context):
    many = 0
    while context[0] != "?":
        context = [part for part in context[1] if has_unknown(part)][0]
        many += 1
    return many


def put_in_first(context, term):
    """A context with a term in place of its unknown, all else being shared."""
    path = []
    while context[0] != "?":
        at = [has_unknown(part) for part in context[1]].index(True)
        path.append((context[0], context[1][:at], context[1][at + 1 :]))
        context = context[1][at]
    for name, ahead, behind in reversed(path):
        term = (name, ahead + (term,) + behind)
    return term


class FewestTest(unittest.TestCase):
    def test_by_hand(self):
        least, paper = fewest(counted(3, [0]))
        self.assertEqual(paper.terms, {0: 0, 1: 1, 2: wrapped(1, 0), 3: wrapped(2, 0)})
        self.assertEqual(list(paper.parting), list(itertools.combinations(range(4), 2)))
        self.assertEqual(paper.parting[0, 1], ("?", 0))
        self.assertEqual(paper.parting[2, 3], wrapped(1, ("?", 0)))
        self.assertIs(paper.shows(least), True)
        self.assertEqual(fewest(NONE), (NONE, Fewest({0: 0}, {})))

    def test_contexts(self):
        source = random.Random(809)
        for _ in range(60):
            least, paper = fewest(random_set(source, 5))
            for (one, other), context in paper.parting.items():
                self.assertEqual(names_in([context]), [0])
                self.assertEqual([part for part in parts_of(context) if part == ("?", 0)], [("?", 0)])
                self.assertNotEqual(*[least.has(put_in(context, {0: paper.terms[state]})) for state in (one, other)])

    def test_deep_contexts(self):
        # The last state but one is told from others by thirteen compounds around it.
        one = TermSet(16, {0: 0}, {("s", 1): {(at,): min(at + 1, 14) if at < 15 else 15 for at in range(16)}}, 15, [14])
        least, paper = fewest(one)
        self.assertEqual(least.many, 16)
        self.assertIs(paper.shows(least), True)
        deep = {pair: wrapped(200, paper.parting[pair], "t") for pair in paper.parting}
        self.assertIs(Fewest(paper.terms, deep).shows(least), False)
        ring = counted(2, [0])
        self.assertIs(Fewest({0: 0, 1: "a", 2: wrapped(1, 0)}, {(0, 1): wrapped(40, ("?", 0)), (0, 2): wrapped(40, ("?", 0)), (1, 2): wrapped(41, ("?", 0))}).shows(least_set(ring)), True)

    def test_equal(self):
        paper = Fewest({0: "a"}, {})
        self.assertEqual(paper, Fewest({0: "a"}, {}))
        for other in (Fewest({0: "b"}, {}), Fewest({0: "a"}, {(0, 1): X}), Spent(0), None, {0: "a"}):
            self.assertNotEqual(paper, other)

    def test_wrong_papers(self):
        least, paper = fewest(counted(2, [0]))
        terms, parting = paper.terms, paper.parting
        hole = ("?", 0)
        for wrong_terms, wrong_parting in (
            ({}, parting), ({**terms, 3: 0}, parting), ({0: 0, 1: 1}, parting), ({**terms, 1: 0}, parting), ({**terms, 1: X}, parting), (terms, {}),
            (terms, {pair: parting[pair] for pair in list(parting)[1:]}), (terms, {**parting, (1, 0): hole}), (terms, {**parting, (0, 0): hole}),
            (terms, {**parting, (0, 3): hole}), (terms, {**parting, (1, 2): hole}), (terms, {**parting, (0, 1): ("?", 1)}), (terms, {**parting, (0, 1): "a"}),
            (terms, {**parting, (0, 1): ("f", (hole, hole))}), (terms, {**parting, (0, 2): ("s", (hole, X))}), (None, parting), (terms, None), ((), ()),
        ):
            self.assertIs(Fewest(wrong_terms, wrong_parting).shows(least), False, (wrong_terms, wrong_parting))
        self.assertIs(paper.shows(counted(3, [0])), False)
        self.assertIs(paper.shows(ALL), False)

    def test_more_states_than_needed_can_not_be_parted(self):
        six = TermSet(7, {0: 0}, {("s", 1): {(at,): (at + 1) % 6 if at < 6 else 6 for at in range(7)}}, 6, [0, 3])
        self.assertIs(fewest(six)[1].shows(six), False)

    def test_dicts_are_not_kept(self):
        terms, parting = {0: "a"}, {(0, 1): ("?", 0)}
        paper = Fewest(terms, parting)
        terms[1] = "b"
        parting[0, 2] = X
        self.assertEqual(paper, Fewest({0: "a"}, {(0, 1): ("?", 0)}))


if __name__ == "__main__":
    unittest.main()
