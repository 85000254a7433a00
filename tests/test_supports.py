"""[37]: what facts hang on."""

import itertools
import random
import unittest

from proofsizes.errors import RelationError, TooLarge
from proofsizes.flat import NoFact, NotFlat, facts
from proofsizes.programs import Program, Rule
from proofsizes.supports import BadNumbers, must_have, supports, survives
from tests.flats import random_flat, slow_facts
from tests.samples import X, Y, Z
from tests.test_flat import GRAPH, NO_FACTS, NOT_FLAT, RING

THREE = Rule(("three", ()), [("q", (X,)), ("q", (Y,)), ("q", (Z,)), ("unlike", (X, Y)), ("unlike", (X, Z)), ("unlike", (Y, Z))])


def threes(many):
    return Program([Rule(("q", (at,)), []) for at in range(many)] + [THREE])


def slow_supports(program, fact):
    """The least sets by trying all sets of rules without goals."""
    given = [number for number, rule in enumerate(program.rules) if not rule.goals]
    found = []
    for many in range(len(given) + 1):
        for row in itertools.combinations(given, many):
            if not any(set(less) <= set(row) for less in found):
                rules = [rule for number, rule in enumerate(program.rules) if rule.goals or number in row]
                if fact in slow_facts(rules):
                    found.append(row)
    return tuple(sorted(found))


class SupportsTest(unittest.TestCase):
    def test_by_hand(self):
        self.assertEqual(supports(GRAPH, ("path", ("a", "d"))), ((0, 1, 2), (2, 3)))
        self.assertEqual(supports(GRAPH, ("edge", ("c", "d"))), ((2,),))
        self.assertEqual(supports(RING, ("path", ("c", "c"))), ((1, 2, 4),))
        self.assertEqual(must_have(GRAPH, ("path", ("a", "d"))), (2,))
        self.assertEqual(must_have(RING, ("path", ("a", "b"))), ())
        self.assertEqual(supports(RING, ("path", ("a", "b"))), ((0,), (2, 3, 4)))

    def test_facts_that_need_no_given_ones(self):
        program = Program([Rule(("p", ()), [("equal", (1, 1))]), Rule(("q", ()), []), Rule(("q", ()), [("p", ())]), Rule(("q", ()), [])])
        self.assertEqual(supports(program, ("p", ())), ((),))
        self.assertEqual(supports(program, ("q", ())), ((),))
        self.assertEqual(must_have(program, ("q", ())), ())
        self.assertIs(survives(program, ("q", ()), [1, 3]), True)

    def test_given_twice(self):
        program = Program([Rule(("q", ()), []), Rule(("p", ()), [("q", ())]), Rule(("q", ()), [])])
        self.assertEqual(supports(program, ("p", ())), ((0,), (2,)))
        self.assertEqual(must_have(program, ("p", ())), ())

    def test_random(self):
        source = random.Random(751)
        many = 0
        for _ in range(120):
            program = random_flat(source)
            given = [number for number, rule in enumerate(program.rules) if not rule.goals]
            for fact in facts(program):
                rows = slow_supports(program, fact)
                self.assertEqual(supports(program, fact), rows)
                self.assertEqual(must_have(program, fact), tuple(number for number in given if all(number in row for row in rows)))
                many += len(rows) > 1
                for _ in range(3):
                    gone = [number for number in given if source.random() < 0.5]
                    stays = any(not set(row) & set(gone) for row in rows)
                    self.assertIs(survives(program, fact, source.choice([gone, tuple(gone), gone * 2])), stays)
        self.assertGreater(many, 30)

    def test_300_sets_and_more(self):
        self.assertEqual(len(supports(threes(13), ("three", ()))), 286)
        self.assertEqual(supports(threes(13), ("three", ()))[-1], (10, 11, 12))
        self.large(364, threes(14), ("three", ()))

    def test_300_sets_of_goals_and_more(self):
        given = [Rule(("q", (at,)), []) for at in range(7)] + [Rule(("r", (at,)), []) for at in range(6)]
        two = [Rule((name + name, ()), [(name, (X,)), (name, (Y,)), ("unlike", (X, Y))]) for name in "qr"]
        many, some = [("qq", ()), ("rr", ())], [("q", (0,)), ("q", (1,)), ("r", (0,)), ("r", (1,))]
        self.assertEqual(supports(Program(given + two + [Rule(("p", ()), some + many)]), ("p", ())), ((0, 1, 7, 8),))
        # The first two goals have 21 * 15 sets, though few are left with all goals.
        self.large(315, Program(given + two + [Rule(("p", ()), many + some)]), ("p", ()))
        self.large(315, Program(given + two + [Rule(("p", ()), many)]), ("p", ()))
        fewer = given[1:] + two + [Rule(("p", ()), many + [("q", (1,))])]
        self.assertEqual(len(supports(Program(fewer), ("p", ()))), 5 * 15)

    def test_sets_within_others_do_not_count(self):
        pairs = [Rule(("q", (at,)), []) for at in range(13)] + [Rule(("two", ()), [("q", (X,)), ("q", (Y,)), ("unlike", (X, Y))])]
        program = Program(pairs + [Rule(("all", ()), [("two", ()), ("two", ()), ("q", (X,))])])
        self.assertEqual(len(supports(program, ("all", ()))), 78)

    def large(self, number, program, fact):
        for call in (supports, must_have):
            with self.assertRaises(TooLarge) as caught:
                call(program, fact)
            self.assertEqual(caught.exception.number, number)


class WrongTest(unittest.TestCase):
    def test_errors(self):
        self.assertEqual(BadNumbers.__bases__, (NoFact,))
        bad = BadNumbers([1])
        self.assertEqual(bad.fact, [1])
        self.assertIsInstance(bad, RelationError)

    def test_not_flat(self):
        for rule in NOT_FLAT:
            for call in (supports, must_have, lambda program, fact: survives(program, fact, None)):
                with self.assertRaises(NotFlat) as caught:
                    call(Program([GRAPH.rules[0], rule, rule]), None)
                self.assertEqual(caught.exception.number, 1)

    def test_no_facts(self):
        for fact in NO_FACTS + [("edge", ("b", "a")), ("other", ())]:
            for call in (supports, must_have, lambda program, fact: survives(program, fact, None)):
                with self.assertRaises(NoFact) as caught:
                    call(GRAPH, fact)
                self.assertEqual(caught.exception.fact, fact)
                self.assertNotIsInstance(caught.exception, BadNumbers)

    def test_bad_numbers(self):
        for gone in (None, 0, "0", {0: True}, [4], [0, 5], [6], [-1], [True], [None], ["0"], [(0,)], [0, 1, 2, 3, 99], (0.5,)):
            with self.assertRaises(BadNumbers) as caught:
                survives(GRAPH, ("path", ("a", "d")), gone)
            self.assertEqual(caught.exception.fact, gone)
        self.assertIs(survives(GRAPH, ("path", ("a", "d")), []), True)
        self.assertIs(survives(GRAPH, ("path", ("a", "d")), [0, 1]), True)
        self.assertIs(survives(GRAPH, ("path", ("a", "d")), (0, 3)), False)

    def test_survives_where_there_are_many_sets(self):
        self.assertIs(survives(threes(14), ("three", ()), list(range(11))), True)
        self.assertIs(survives(threes(14), ("three", ()), list(range(12))), False)


if __name__ == "__main__":
    unittest.main()
