"""[41], [42]: goals that must not hold."""

import itertools
import random
import unittest

from proofsizes.errors import BadRule, TooLarge
from proofsizes.flat import facts
from proofsizes.programs import Program, Rule
from proofsizes.searching import Spent
from proofsizes.strata import BadBarred, Barred, NoStrata, Ringed, Strata, is_supported, judge_strata, layered_facts
from tests.flats import CONSTANTS, constants_of, ordered, put, random_flat, random_flat_rule, random_goal, slow_rows
from tests.samples import OWN, W, X, Y, Z
from tests.spoiling import check_spoilt
from tests.test_flat import GRAPH, NOT_FLAT, PATHS, cube

WIN = Barred(("win", (X,)), [("move", (X, Y))], [("win", (Y,))])
MOVES = [Barred(("move", pair), [], []) for pair in [("a", "b"), ("b", "c"), ("c", "d")]]


def barred(rule, nots=()):
    return Barred(rule.head, rule.goals, nots)


def no_path():
    """The pairs of nodes without a path, and those nodes from which all can be reached."""
    rules = [barred(rule) for rule in GRAPH.rules]
    rules += [Barred(("node", (X,)), [("edge", (X, Y))], []), Barred(("node", (Y,)), [("edge", (X, Y))], [])]
    rules.append(Barred(("apart", (X, Y)), [("node", (X,)), ("node", (Y,)), ("unlike", (X, Y))], [("path", (X, Y))]))
    rules.append(Barred(("lacks", (X,)), [("apart", (X, Y))], []))
    rules.append(Barred(("root", (X,)), [("node", (X,))], [("lacks", (X,))]))
    return rules


def random_barred(source, most=7):
    rules = [Barred(random_goal(source, CONSTANTS), [], []) for _ in range(source.randrange(4))]
    for _ in range(source.randrange(1, most)):
        rule = random_flat_rule(source)
        asked = [("?", name) for name in sorted({term[1] for goal in rule.goals if goal[0] not in OWN for term in goal[1] if isinstance(term, tuple)})]
        nots = [random_goal(source, asked + CONSTANTS) for _ in range(source.choice([0, 0, 1, 2]))]
        rules.append(barred(rule, nots))
    return rules


def slow_made(rules, found):
    """What rules make of facts at once."""
    constants = sorted(set(constants_of([one.rule for one in rules])) | {term for _, terms in found for term in terms}, key=str)
    made = set()
    for one in rules:
        for worth in slow_rows(one.rule, found, constants):
            if not any(put(goal, worth) in found for goal in one.nots):
                made.add(put(one.rule.head, worth))
    return made


def relations(rules):
    return {(goal[0], len(goal[1])) for one in rules for goal in (one.rule.head,) + one.rule.goals + one.nots if goal[0] not in OWN}


def asks(rules):
    """Triples of relations that ask one another, and whether by a not."""
    found = set()
    for one in rules:
        head = (one.rule.head[0], len(one.rule.head[1]))
        found |= {(head, (goal[0], len(goal[1])), False) for goal in one.rule.goals if goal[0] not in OWN}
        found |= {(head, (goal[0], len(goal[1])), True) for goal in one.nots}
    return found


class BarredTest(unittest.TestCase):
    def test_attributes(self):
        goals, nots = [("q", [X]), ("unlike", (X, 1))], [("r", [X, "a"]), ("s", [])]
        one = Barred(("p", [X]), goals, nots)
        self.assertEqual(one.rule, Rule(("p", (X,)), [("q", (X,)), ("unlike", (X, 1))]))
        self.assertEqual(one.nots, (("r", (X, "a")), ("s", ())))
        nots.append(None)
        self.assertEqual(one, Barred(("p", (X,)), goals, (("r", (X, "a")), ("s", ()))))
        for other in (Barred(("p", (X,)), goals, ()), Barred(("p", (X,)), goals[:1], nots[:2]), Rule(("p", (X,)), goals), Spent(0), None):
            self.assertNotEqual(one, other)

    def bad(self, *arguments):
        with self.assertRaises(BadBarred, msg=arguments) as caught:
            Barred(*arguments)
        self.assertIsNone(caught.exception.number)

    def test_wrong(self):
        for rule in NOT_FLAT:
            self.bad(rule.head, rule.goals, [])
        head, goals = ("p", (X,)), [("q", (X, Y)), ("equal", (X, Y))]
        for nots in (None, 7, ("r", (X,)), [None], [("r", X)], [("R", (X,))], [("r", (("f", (X,)),))], [("r", (Z,))], [("equal", (X, Y))], [("unlike", (X, Y))],
                     [("r", (X,))] * 7, [("r", (X,)), ("s", (W,))], {("r", (X,)): True}, [("r", (X,) * 7)]):
            self.bad(head, goals, nots)
        self.assertEqual(len(Barred(head, goals, [("r", (X,))] * 6).nots), 6)
        # An unknown of a not stands in a relation goal, not in an equal or unlike goal, nor in the head alone.
        self.bad(("p", ("a",)), [("q", (X,)), ("equal", (Y, X))], [("r", (X,))])
        self.bad(("p", ("a",)), [], [("r", (X,))])
        self.assertEqual(Barred(("p", ("a",)), [], [("r", ("a",))]).nots, (("r", ("a",)),))

    def test_bad_rules_ahead(self):
        for head, goals, part in ((("P", ()), [], "head"), (("p", ()), None, "goals"), (("p", ()), [("q", ())] * 7, "goals"), (("equal", (X, Y)), None, "head")):
            with self.assertRaises(BadRule) as caught:
                Barred(head, goals, None)
            self.assertEqual((caught.exception.number, caught.exception.part), (None, part))


class StrataTest(unittest.TestCase):
    def check(self, rules):
        paper = judge_strata(rules)
        self.assertIs(paper.shows(rules), True)
        self.assertIs(bool(paper), isinstance(paper, Strata))
        if paper:
            self.assertEqual(list(paper.numbers), sorted(relations(rules)))
        else:
            self.assertIsInstance(paper, Ringed)
            self.assertLessEqual(set(paper.ring), asks(rules))
            self.assertTrue(any(by_not for _, _, by_not in paper.ring))
        return paper

    def test_by_hand(self):
        numbers = {("apart", 2): 1, ("edge", 2): 0, ("lacks", 1): 1, ("node", 1): 0, ("path", 2): 0, ("root", 1): 2}
        self.assertEqual(self.check(no_path()), Strata(numbers))
        self.assertEqual(self.check([]), Strata({}))
        self.assertEqual(self.check([WIN] + MOVES), Ringed(((("win", 1), ("win", 1), True),)))
        self.assertEqual(self.check([Barred(("p", ()), [], [("q", ())])]), Strata({("p", 0): 1, ("q", 0): 0}))
        self.assertEqual(self.check([Barred(("p", ()), [], [("p", ("a",))])]), Strata({("p", 0): 1, ("p", 1): 0}))

    def test_rings(self):
        p, q, r = ("p", ()), ("q", ()), ("r", ())
        self.assertEqual(self.check([Barred(p, [q], []), Barred(q, [r], []), Barred(r, [p], [])]), Strata({("p", 0): 0, ("q", 0): 0, ("r", 0): 0}))
        ring = self.check([Barred(p, [q], []), Barred(q, [r], []), Barred(r, [], [p])]).ring
        self.assertEqual(set(ring), {(("p", 0), ("q", 0), False), (("q", 0), ("r", 0), False), (("r", 0), ("p", 0), True)})
        self.assertEqual(len(self.check([Barred(p, [], [q]), Barred(q, [], [r]), Barred(r, [], [p])]).ring), 3)
        self.assertEqual(len(self.check([Barred(p, [q], [p]), Barred(q, [p], [])]).ring), 1)

    def test_random(self):
        source = random.Random(811)
        kinds = {True: 0, False: 0}
        for _ in range(200):
            rules = random_barred(source)
            paper = self.check(rules)
            kinds[bool(paper)] += 1
            many = len(relations(rules))
            numbers = slow_strata(rules, many)
            self.assertEqual(paper.numbers if paper else None, numbers)
        self.assertGreater(min(kinds.values()), 30)

    def test_equal(self):
        self.assertEqual(Strata({("p", 0): 0}), Strata({("p", 0): 0}))
        self.assertEqual(Ringed([1]), Ringed((1,)))
        papers = [Strata({}), Strata({("p", 0): 0}), Strata({("p", 0): 1}), Ringed(()), Ringed((1,)), Spent(0), None, {}]
        for one, other in itertools.combinations(papers, 2):
            self.assertNotEqual(one, other)

    def test_wrong_strata(self):
        rules = [Barred(("p", ()), [("q", ())], [("r", ())]), Barred(("q", ()), [], [])]
        for numbers, shows in (
            ({("p", 0): 1, ("q", 0): 0, ("r", 0): 0}, True), ({("p", 0): 9, ("q", 0): 9, ("r", 0): 8}, True), ({("p", 0): 0, ("q", 0): 0, ("r", 0): 0}, False),
            ({("p", 0): 1, ("q", 0): 2, ("r", 0): 0}, False), ({("p", 0): 0, ("q", 0): 0, ("r", 0): -1}, False), ({("p", 0): 1, ("q", 0): 0}, False), ({}, False),
            ({("p", 0): 1, ("q", 0): 0, ("r", 0): 0, ("s", 0): 0}, False), ({("p", 0): 1, ("q", 0): 0, "r": 0}, False), (None, False), ({("p", 0): True, ("q", 0): 0, ("r", 0): 0}, False),
            ({("r", 0): 0, ("q", 0): 0, ("p", 0): 1}, True),
        ):
            self.assertIs(Strata(numbers).shows(rules), shows, numbers)

    def test_wrong_rings(self):
        rules = [Barred(("p", ()), [("q", ())], []), Barred(("q", ()), [], [("p", ())]), Barred(("r", ()), [("r", ())], [])]
        p, q = ("p", 0), ("q", 0)
        one, other = (p, q, False), (q, p, True)
        for ring, shows in (
            ((one, other), True), ((other, one), True), ((one, other, one, other), True), ([one, other], True), ((one,), False), ((other,), False), ((), False),
            (((p, q, True), other), False), ((one, (q, p, False)), False), ((((("r", 0)), ("r", 0), False),), False), ((one, other, one), False), ((one, (q, p, 1)), False),
            (None, False), ((p, q), False), ((None,), False), ((one, (q, p)), False),
        ):
            self.assertIs(Ringed(ring).shows(rules), shows, ring)

    def test_spoilt(self):
        self.assertGreater(check_spoilt(self, judge_strata(no_path()), (no_path(),)), 300)
        rules = [Barred(("p", ()), [("q", ())], []), Barred(("q", ()), [], [("p", ())])]
        self.assertGreater(check_spoilt(self, judge_strata(rules), (rules,)), 100)

    def test_dicts_are_not_kept(self):
        numbers = {("p", 0): 0}
        paper = Strata(numbers)
        numbers["q", 0] = 1
        self.assertEqual(paper, Strata({("p", 0): 0}))


def slow_strata(rules, many):
    """The least numbers, by raising them again and again; None if they come to be too large."""
    numbers = {one: 0 for one in relations(rules)}
    while True:
        wrong = [(one, other, by_not) for one, other, by_not in asks(rules) if numbers[one] < numbers[other] + by_not]
        if not wrong:
            return numbers
        one, other, by_not = wrong[0]
        numbers[one] = numbers[other] + by_not
        if numbers[one] > many:
            return None


class FactsTest(unittest.TestCase):
    def test_by_hand(self):
        found = layered_facts(no_path())
        self.assertEqual([row for name, row in found if name == "apart"], [("b", "a"), ("c", "a"), ("c", "b"), ("d", "a"), ("d", "b"), ("d", "c")])
        self.assertEqual([row for name, row in found if name == "root"], [("a",)])
        self.assertEqual(found, tuple(ordered(found)))
        self.assertEqual(layered_facts([]), ())

    def test_without_nots(self):
        source = random.Random(821)
        for _ in range(80):
            program = random_flat(source)
            rules = [barred(rule) for rule in program.rules]
            self.assertEqual(layered_facts(rules), facts(program))
            self.assertIs(is_supported(rules, facts(program)), True)

    def test_nots_without_terms(self):
        rules = [Barred(("p", ()), [], [("q", ()), ("r", ())]), Barred(("s", ("a",)), [], [("p", ())]), Barred(("t", ("a",)), [], [("s", ("a",))])]
        self.assertEqual(layered_facts(rules), (("p", ()), ("t", ("a",))))
        self.assertEqual(layered_facts(rules + [Barred(("r", ()), [], [])]), (("r", ()), ("s", ("a",))))

    def test_random(self):
        source = random.Random(823)
        many = 0
        for _ in range(250):
            rules = random_barred(source)
            numbers = slow_strata(rules, len(relations(rules)))
            if numbers is None:
                with self.assertRaises(NoStrata) as caught:
                    layered_facts(rules)
                self.assertEqual(caught.exception.ring, judge_strata(rules).ring)
                continue
            found = set()
            for stratum in range(len(rules) + 1):
                own = [one for one in rules if numbers[one.rule.head[0], len(one.rule.head[1])] == stratum]
                before = None
                while before != found:
                    before = set(found)
                    found |= slow_made(own, found)
            self.assertEqual(layered_facts(rules), tuple(ordered(found)))
            self.assertIs(is_supported(rules, list(found)), True)
            many += len(found) > 2
        self.assertGreater(many, 50)

    def test_supported(self):
        rules = [WIN] + MOVES
        moves = [("move", pair) for pair in [("a", "b"), ("b", "c"), ("c", "d")]]
        self.assertIs(is_supported(rules, moves + [("win", ("c",)), ("win", ("a",))]), True)
        self.assertIs(is_supported(rules, tuple(moves[::-1] + [("win", ("c",)), ("win", ("a",)), ("win", ("a",))])), True)
        for some in ([("win", ("c",))], [("win", ("c",)), ("win", ("b",))], [], [("win", ("a",)), ("win", ("c",)), ("other", ())]):
            self.assertIs(is_supported(rules, moves + some), False)
        self.assertIs(is_supported(rules, moves[:2] + [("win", ("c",)), ("win", ("a",))]), False)
        self.assertIs(is_supported([], []), True)

    def test_some_but_not_the_least(self):
        ring = [Barred(("p", ()), [("q", ())], []), Barred(("q", ()), [("p", ())], [])]
        self.assertEqual(layered_facts(ring), ())
        self.assertIs(is_supported(ring, ()), True)
        self.assertIs(is_supported(ring, [("p", ()), ("q", ())]), True)
        self.assertIs(is_supported(ring, [("p", ())]), False)
        either_one = [Barred(("p", ()), [], [("q", ())]), Barred(("q", ()), [], [("p", ())])]
        self.assertEqual([some for many in range(3) for some in itertools.combinations([("p", ()), ("q", ())], many) if is_supported(either_one, some)], [(("p", ()),), (("q", ()),)])
        self.assertIs(is_supported([Barred(("p", ()), [], [("p", ())])], [("p", ())]), False)
        self.assertIs(is_supported([Barred(("p", ()), [], [("p", ())])], []), False)

    def test_random_supported(self):
        source = random.Random(827)
        kinds = {True: 0, False: 0}
        pool = [("r", ("a",)), ("r", (1,)), ("s", ()), ("p", ("a", "a")), ("p", ("b", "a")), ("q", ("a", "a"))]
        for _ in range(120):
            rules = random_barred(source, 4)
            for many in range(4):
                for some in itertools.combinations(pool, many):
                    supported = slow_made(rules, set(some)) == set(some)
                    self.assertIs(is_supported(rules, some), supported)
                    kinds[supported] += 1
        self.assertGreater(min(kinds.values()), 20)


class WrongTest(unittest.TestCase):
    def raises(self, error, worth, call, *arguments):
        with self.assertRaises(error, msg=arguments) as caught:
            call(*arguments)
        self.assertEqual(caught.exception.__dict__[{NoStrata: "ring"}.get(error, "number")], worth)

    def calls(self):
        return [judge_strata, Strata({}).shows, Ringed(()).shows, layered_facts, lambda rules: is_supported(rules, [])]

    def test_rows(self):
        for call in self.calls():
            for rules in (None, 7, WIN, Program([]), {}):
                self.raises(BadBarred, None, call, rules)
            for wrong in (None, WIN.rule, True, (), Spent(0)):
                self.raises(BadBarred, 1, call, [WIN, wrong, wrong] + [WIN] * 20)
            self.raises(TooLarge, 17, call, [WIN] * 17)
            call([MOVES[0]] * 16)

    def test_no_strata(self):
        self.raises(NoStrata, ((("win", 1), ("win", 1), True),), layered_facts, [WIN] + MOVES)

    def test_too_many_facts(self):
        rules = [barred(rule) for rule in cube(13, 3).rules]
        self.raises(TooLarge, 13 ** 3 + 13, layered_facts, rules)
        self.assertEqual(len(layered_facts([barred(rule) for rule in cube(12, 3).rules])), 12 ** 3 + 12)
        unknowns = [("?", at) for at in range(6)]
        wide = Barred(("p", (unknowns[0],)), [("q", (one,)) for one in unknowns], [("r", (unknowns[0],))])
        given = [Barred(("q", (at,)), [], []) for at in range(8)]
        self.raises(TooLarge, 8 ** 6, layered_facts, given + [wide])
        self.raises(TooLarge, 8 ** 6, is_supported, [wide], [("q", (at,)) for at in range(8)])

    def test_paths(self):
        self.assertEqual(layered_facts([barred(rule) for rule in PATHS]), ())


if __name__ == "__main__":
    unittest.main()
