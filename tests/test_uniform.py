"""[36]: what follows whatever facts are given."""

import itertools
import random
import unittest

from proofsizes import congruence, following
from proofsizes.errors import TooLarge
from proofsizes.flat import NotFlat, facts
from proofsizes.programs import Program, Question, Rule
from proofsizes.proofs import answer_of
from proofsizes.searching import Spent
from proofsizes.uniform import Apart, Follows, NotPlain, is_same, judge_follows, shrunk
from tests.flats import ordered, put, random_flat, random_flat_rule, slow_facts
from tests.samples import W, X, Y, Z
from tests.spoiling import check_spoilt
from tests.test_flat import NOT_FLAT

BASE = Rule(("path", (X, Y)), [("edge", (X, Y))])
LEFT = Rule(("path", (X, Z)), [("path", (X, Y)), ("edge", (Y, Z))])
RIGHT = Rule(("path", (X, Z)), [("edge", (X, Y)), ("path", (Y, Z))])
TWICE = Rule(("path", (X, Z)), [("path", (X, Y)), ("path", (Y, Z))])
OWN_GOALS = [Rule(("p", (X,)), [("q", (X,)), ("equal", (X, "a"))]), Rule(("p", ("a",)), [("unlike", (1, 2))])]


def with_goals(program, rule):
    """The program with the goals of a rule behind its own, and the head, as the document tells it."""
    goals = (rule.head,) + rule.goals
    constants = [term for one in list(program.rules) + [rule] for goal in (one.head,) + one.goals for term in goal[1]]
    first = 1 + max([0] + [term for term in constants if isinstance(term, int)])
    worth = {}
    for _, terms in goals:
        for term in terms:
            if isinstance(term, tuple):
                worth.setdefault(term[1], first + len(worth))
    return Program(list(program.rules) + [Rule(put(goal, worth), []) for goal in rule.goals]), put(rule.head, worth)


class JudgeTest(unittest.TestCase):
    def check(self, program, rule):
        paper = judge_follows(program, rule)
        longer, head = with_goals(program, rule)
        found = slow_facts(longer.rules)
        self.assertIs(bool(paper), head in found)
        self.assertIs(paper.shows(program, rule), True)
        if paper:
            self.assertIsInstance(paper, Follows)
            self.assertIsNotNone(answer_of(longer, Question([], [head]), (paper.proof,)))
        else:
            self.assertEqual(paper, Apart(tuple(ordered(found))))
        return paper

    def test_by_hand(self):
        twice, right = Program([BASE, TWICE]), Program([BASE, RIGHT])
        self.assertEqual(self.check(twice, RIGHT), Follows((1, ((0, ((2, ()),)), (3, ())))))
        self.assertEqual(self.check(twice, LEFT), Follows((1, ((2, ()), (0, ((3, ()),))))))
        self.assertEqual(self.check(right, TWICE), Apart((("path", (1, 3)), ("path", (3, 2)))))
        self.assertEqual(self.check(right, Rule(("edge", (X, Y)), [("edge", (X, Y)), ("path", (Y, X))])), Follows((2, ())))
        self.assertEqual(self.check(Program([]), BASE), Apart((("edge", (1, 2)),)))

    def test_facts_and_no_goals(self):
        program = Program([Rule(("p", ("a",)), []), Rule(("q", (X,)), [("p", (X,))])])
        self.assertEqual(self.check(program, Rule(("q", ("a",)), [])), Follows((1, ((0, ()),))))
        self.assertEqual(self.check(program, Rule(("q", ("b",)), [])), Apart((("p", ("a",)), ("q", ("a",)))))

    def test_integers_above_all(self):
        program = Program([Rule(("p", (X, 7)), [("q", (X, Y)), ("q", (Y, -3))])])
        rule = Rule(("r", (Z, X)), [("q", (Y, X)), ("q", (W, Z)), ("r", (9, X))])
        # Of the head first, then of the goals, from 10 on.
        self.assertEqual(self.check(program, rule).facts, (("q", (12, 11)), ("q", (13, 10)), ("r", (9, 11))))
        self.assertEqual(self.check(Program([]), Rule(("p", (X,)), [("q", (X, 5))])).facts, (("q", (6, 5)),))

    def test_the_greatest_integer_below_0(self):
        rule = Rule(("p", (X,)), [("q", (X, -5)), ("q", (Y, -9))])
        self.assertEqual(self.check(Program([]), rule).facts, (("q", (1, -5)), ("q", (2, -9))))
        self.assertEqual(self.check(Program([Rule(("q", (0, "a")), [])]), Rule(("p", (X,)), [("q", (X, -5))])).facts, (("q", (0, "a")), ("q", (1, -5))))

    def test_random(self):
        source = random.Random(727)
        kinds = {True: 0, False: 0}
        for _ in range(300):
            program, rule = random_flat(source, 6, True), random_flat_rule(source, True)
            kinds[bool(self.check(program, rule))] += 1
        self.assertGreater(min(kinds.values()), 40)

    def test_what_follows_adds_nothing(self):
        source = random.Random(733)
        for _ in range(80):
            program, rule = random_flat(source, 6, True), random_flat_rule(source, True)
            paper = judge_follows(program, rule)
            given = [("p", (source.choice("abc"), 1)), ("q", (source.choice("ab"), source.choice("ab"))), ("r", (source.choice("ab"),)), ("s", ())]
            for many in range(5):
                facts_given = source.sample(given, min(many, 4))
                plain = slow_facts(program.rules, facts_given)
                if paper:
                    self.assertEqual(slow_facts(list(program.rules) + [rule], facts_given), plain)
            if not paper:
                self.assertEqual(slow_facts(program.rules, paper.facts), set(paper.facts))
                self.assertNotEqual(slow_facts(list(program.rules) + [rule], paper.facts), set(paper.facts))


class PapersTest(unittest.TestCase):
    def test_equal(self):
        self.assertEqual(Follows((0, ())), Follows((0, ())))
        self.assertEqual(Apart((("p", ()),)), Apart([("p", ())]))
        others = [Follows((1, ())), Follows((0, ())), Apart(()), Apart((("p", ()),)), following.Follows((0, ())), congruence.Apart({}, {}, 0), Spent(0), None, (0, ())]
        for one, other in itertools.combinations(others, 2):
            self.assertNotEqual(one, other)

    def test_wrong_papers(self):
        program = Program([BASE, TWICE])
        for proof in ((1, ((0, ((2, ()),)),)), (1, ((2, ()), (3, ()))), (2, ()), (0, ((2, ()),)), (1, ((3, ()), (0, ((2, ()),)))), (9, ()), (), None, (1, ((0, ((0, ((2, ()),)),)), (3, ())))):
            self.assertIs(Follows(proof).shows(program, RIGHT), False, proof)
        self.assertIs(Follows((1, ((0, ((2, ()),)), (1, ((3, ()), (3, ())))))).shows(program, RIGHT), False)
        right = Program([BASE, RIGHT])
        for some in (
            (), (("path", (1, 3)),), (("path", (1, 3)), ("path", (3, 2)), ("path", (1, 2))), (("path", (1, 3)), ("path", (3, 2)), ("edge", (1, 3))),
            (("path", (1, 3)), ("path", (3, 2)), ("equal", (1, 3))), None, ("path",), (("path", (1, 3)), ("path", (3, X))), (("path", (1, 3)), ("path", [3, 2])),
        ):
            self.assertIs(Apart(some).shows(right, TWICE), False, some)
        for some in ((("path", (3, 2)), ("path", (1, 3))), (("path", ("x", "x2")), ("path", ("x2", 5)), ("path", (1, 3))), (("path", (1, 3)), ("path", (3, 2)), ("path", (3, 2)), ("p", ()))):
            self.assertIs(Apart(some).shows(right, TWICE), True, some)

    def test_facts_of_rules_are_among_them(self):
        program = Program([Rule(("p", ("a",)), [])])
        rule = Rule(("q", (X,)), [("p", (X,))])
        self.assertIs(Apart((("p", ("b",)),)).shows(program, rule), False)
        self.assertIs(Apart((("p", ("b",)), ("p", ("a",)))).shows(program, rule), True)
        self.assertIs(Apart((("p", ("a",)),)).shows(program, rule), True)

    def test_spoilt(self):
        check_spoilt(self, judge_follows(Program([BASE, TWICE]), RIGHT), (Program([BASE, TWICE]), RIGHT))
        check_spoilt(self, judge_follows(Program([BASE, RIGHT]), TWICE), (Program([BASE, RIGHT]), TWICE))

    def test_a_large_proof(self):
        rules = [Rule(("p" + str(at + 1), (X,)), [("p" + str(at), (X,)), ("p" + str(at), (X,))]) for at in range(10)]
        paper = judge_follows(Program(rules), Rule(("p10", (X,)), [("p0", (X,))]))
        self.assertIs(paper.shows(Program(rules), Rule(("p10", (X,)), [("p0", (X,))])), True)
        self.assertIs(paper.shows(Program(rules), Rule(("p10", (X,)), [("p1", (X,))])), False)


class SameTest(unittest.TestCase):
    def test_by_hand(self):
        self.assertIs(is_same(Program([BASE, LEFT]), Program([BASE, RIGHT])), False)
        self.assertIs(is_same(Program([BASE, TWICE]), Program([BASE, TWICE, LEFT, RIGHT])), True)
        self.assertIs(is_same(Program([BASE]), Program([Rule(("path", (W, Z)), [("edge", (W, Z)), ("edge", (W, Y))])])), True)
        self.assertIs(is_same(Program([]), Program([])), True)
        self.assertIs(is_same(Program([]), Program([Rule(("p", (X,)), [("p", (X,))])])), True)
        self.assertIs(is_same(Program([]), Program([Rule(("p", ()), [])])), False)

    def test_random(self):
        source = random.Random(739)
        kinds = {True: 0, False: 0}
        given = [("p", ("a", 1)), ("p", (1, "b")), ("q", ("a", "b")), ("q", ("b", "b")), ("r", ("a",)), ("r", ("c",)), ("s", ())]
        for _ in range(150):
            one = random_flat(source, 4, True)
            other = Program([rule for rule in one.rules if source.random() < 0.8] + [random_flat_rule(source, True)] * source.randrange(2))
            same = is_same(one, other)
            kinds[same] += 1
            if same:
                for _ in range(5):
                    some = source.sample(given, source.randrange(6))
                    self.assertEqual(slow_facts(one.rules, some), slow_facts(other.rules, some))
        self.assertGreater(min(kinds.values()), 20)


class ShrunkTest(unittest.TestCase):
    def check(self, program):
        least = shrunk(program)
        self.assertIs(is_same(program, least), True)
        rules = list(least.rules)
        for number, rule in enumerate(rules):
            self.assertFalse(judge_follows(Program(rules[:number] + rules[number + 1 :]), rule))
            self.assertTrue(any(comes_of(rule, other) for other in program.rules))
            for at in range(len(rule.goals)):
                less = Rule(rule.head, rule.goals[:at] + rule.goals[at + 1 :])
                try:
                    self.assertFalse(judge_follows(least, less))
                except NotPlain as bad:
                    self.assertIsNone(bad.number)
        return least

    def test_rules(self):
        self.assertEqual(self.check(Program([BASE, TWICE, LEFT, RIGHT])), Program([BASE, TWICE]))
        self.assertEqual(len(self.check(Program([BASE, BASE, BASE])).rules), 1)
        self.assertEqual(self.check(Program([Rule(("p", (X,)), [("p", (X,)), ("q", (X,))])])), Program([]))
        self.assertEqual(self.check(Program([])), Program([]))

    def test_goals(self):
        more = Rule(("path", (X, Z)), [("path", (X, Y)), ("path", (Y, Z)), ("path", (X, W)), ("path", (X, Y))])
        self.assertEqual(len(self.check(Program([BASE, more])).rules[1].goals), 2)
        given = Program([Rule(("p", ("a",)), []), Rule(("q", (X,)), [("r", (X,)), ("p", ("a",))])])
        self.assertEqual(self.check(given), Program([Rule(("p", ("a",)), []), Rule(("q", (X,)), [("r", (X,))])]))

    def test_random(self):
        source = random.Random(743)
        fewer = 0
        for _ in range(100):
            program = random_flat(source, 6, True)
            least = self.check(program)
            fewer += least != program
        self.assertGreater(fewer, 20)


def comes_of(rule, other):
    """Whether a rule is another one, some goals left out, in order."""
    goals = iter(other.goals)
    return rule.head == other.head and all(goal in goals for goal in rule.goals)


class WrongTest(unittest.TestCase):
    def raises(self, error, number, call, *arguments):
        with self.assertRaises(error, msg=arguments) as caught:
            call(*arguments)
        self.assertEqual(caught.exception.number, number)

    def calls(self):
        right = Rule(("p", ()), [])
        return [lambda one: judge_follows(one, right), lambda one: Follows((0, ())).shows(one, right), lambda one: Apart(()).shows(one, right),
                lambda one: is_same(one, Program([])), lambda one: is_same(Program([]), one), shrunk]

    def test_programs(self):
        for call in self.calls():
            for rule in NOT_FLAT:
                self.raises(NotFlat, 2, call, Program([BASE, OWN_GOALS[0], rule, rule] + [BASE] * 10))
            for rule in OWN_GOALS:
                self.raises(NotPlain, 1, call, Program([BASE, rule, rule] + [BASE] * 10))
            self.raises(TooLarge, 11, call, Program([BASE] * 11))
            call(Program([BASE] * 10))

    def test_both_programs(self):
        self.raises(NotFlat, 0, is_same, Program([OWN_GOALS[0]] * 12), Program([NOT_FLAT[0]]))
        self.raises(NotFlat, 1, is_same, Program([BASE, NOT_FLAT[0]]), Program([NOT_FLAT[0]]))
        self.raises(NotPlain, 0, is_same, Program([BASE] * 12), Program([OWN_GOALS[0]]))
        self.raises(TooLarge, 12, is_same, Program([BASE] * 12), Program([BASE] * 13))
        self.raises(TooLarge, 13, is_same, Program([BASE]), Program([BASE] * 13))

    def test_rules(self):
        calls = [judge_follows, Follows((0, ())).shows, Apart(()).shows]
        for call in calls:
            for rule in NOT_FLAT + OWN_GOALS:
                self.raises(NotPlain, None, call, Program([BASE] * 11), rule)
            self.raises(NotFlat, 0, call, Program([NOT_FLAT[0]]), NOT_FLAT[1])
            self.raises(NotPlain, 0, call, Program([OWN_GOALS[0]]), NOT_FLAT[1])

    def test_too_many_facts(self):
        unknowns = [("?", at) for at in range(4)]
        wide = Rule(("p", unknowns), [("q", (one,)) for one in unknowns])
        goals = [("q", (("?", at),)) for at in range(6)]
        # Six given facts make 6 ** 4; with one more it is 7 ** 4.
        self.assertFalse(judge_follows(Program([wide]), Rule(("r", ()), goals)))
        more = Program([wide, Rule(("q", ("a",)), [])])
        self.raises(TooLarge, 7 ** 4 + 7, judge_follows, more, Rule(("r", ()), goals))
        self.assertEqual(len(facts(more)), 2)


if __name__ == "__main__":
    unittest.main()
