"""[34]: the rows of a rule are counted, not those that it has by some of its goals alone."""

import itertools
import random
import unittest

from proofsizes.errors import TooLarge
from proofsizes.flat import Held, count_proofs, facts, least_proof, least_sizes
from proofsizes.joining import Facts, FlatRule
from proofsizes.programs import Program, Rule
from proofsizes.sifting import sifted
from proofsizes.strata import Barred, is_supported, layered_facts
from proofsizes.supports import must_have, supports, survives
from proofsizes.terms import names_in
from proofsizes.uniform import Apart, Follows, is_same, judge_follows, shrunk
from tests.flats import slow_rows
from tests.samples import W, X, Y, Z

UNKNOWNS = [("?", at) for at in range(6)]
WIDE = ("n", (1, 2, 3, 4, 5, 6))
CYCLE = [("e", (UNKNOWNS[at], UNKNOWNS[(at + 1) % 6])) for at in range(6)]


def singles(unknowns):
    return [("d", (one,)) for one in unknowns]


def narrow(many, is_first):
    """Rules without goals, and one that has one row, though five of its goals have many."""
    goals = [("n", UNKNOWNS)] + singles(UNKNOWNS[:5]) if is_first else singles(UNKNOWNS[:5]) + [("n", UNKNOWNS)]
    return [Rule(("d", (at,)), []) for at in range(many)] + [Rule(WIDE, []), Rule(("q", (UNKNOWNS[0],)), goals)]


def known(rows):
    found = Facts()
    found.include_all(rows)
    return found


def rows_of(goals, rows):
    return FlatRule(Rule(("h", ()), goals), ()).rows_by(known(rows))


class NarrowTest(unittest.TestCase):
    """A rule with one row, in whatever order its goals stand."""

    def test_facts(self):
        for is_first in (True, False):
            program = Program(narrow(13, is_first))
            self.assertEqual(facts(program)[-1], ("q", (1,)))
            self.assertEqual(least_sizes(program)["q", (1,)], 7)
            self.assertEqual(least_proof(program, ("q", (1,)))[0], 14)
            self.assertEqual(count_proofs(program, ("q", (1,))), 1)

    def test_held(self):
        held = Held(Program(narrow(0, True)[1:]))
        for at in range(300):
            held.put(("d", (at,)))
        self.assertEqual(held.put(WIDE), [WIDE, ("q", (1,))])
        self.assertEqual(held.take(("d", (5,))), [("d", (5,)), ("q", (1,))])

    def test_what_stands_on_facts(self):
        rules = narrow(13, True)
        program = Program(rules)
        self.assertEqual(supports(program, ("q", (1,))), ((1, 2, 3, 4, 5, 13),))
        self.assertEqual(must_have(program, ("q", (1,))), (1, 2, 3, 4, 5, 13))
        self.assertIs(survives(program, ("q", (1,)), [0, 6]), True)
        barred = [Barred(rule.head, rule.goals, []) for rule in rules[:-1]] + [Barred(rules[-1].head, rules[-1].goals, [("e", (UNKNOWNS[5],))])]
        self.assertEqual(layered_facts(barred), facts(program))
        self.assertIs(is_supported(barred, facts(program)), True)

    def test_uniform(self):
        # Seven unknowns and three constants for d: 10 ** 5 rows by d alone come to far more with one goal more.
        unknowns = UNKNOWNS[:5]
        own = [("m", unknowns)] + singles(unknowns)
        program = Program([Rule(("d", (at,)), []) for at in range(8)] + [Rule(("q", (UNKNOWNS[0],)), own)])
        rule = Rule(("q", (X,)), [("m", (X, Y, Z, W, 1))] + singles([X, Y, Z, W]))
        paper = judge_follows(program, rule)
        self.assertEqual(paper.proof[0], 8)
        self.assertIs(paper.shows(program, rule), True)
        other = Rule(("q", (Y,)), rule.goals)
        paper = judge_follows(program, other)
        self.assertIsInstance(paper, Apart)
        self.assertIs(paper.shows(program, other), True)
        self.assertIs(Follows((8, ())).shows(program, other), False)
        self.assertIs(is_same(program, Program(program.rules + (rule,))), True)
        self.assertEqual(shrunk(Program(program.rules + (rule,))).rules[-1].head, ("q", (UNKNOWNS[0],)))


class CountTest(unittest.TestCase):
    def large(self, number, goals, rows):
        with self.assertRaises(TooLarge) as caught:
            rows_of(goals, rows)
        self.assertEqual(caught.exception.number, number)

    def test_equal_and_unlike_goals_count(self):
        many = [("d", (at,)) for at in range(60)]
        same = singles(UNKNOWNS[:4]) + [("equal", (UNKNOWNS[0], UNKNOWNS[3])), ("equal", (UNKNOWNS[1], UNKNOWNS[2]))]
        self.assertEqual(len(rows_of(same, many)), 3600)
        self.assertEqual(len(rows_of(same[:3] + [("equal", (7, UNKNOWNS[0]))], many)), 3600)
        self.assertEqual(rows_of(same[:4] + [("equal", (UNKNOWNS[0], 60))], many), [])
        self.assertEqual(rows_of(same[:4] + [("equal", (1, 2))], many), [])
        self.assertEqual(rows_of(same[:4] + [("unlike", (UNKNOWNS[1], UNKNOWNS[1]))], many), [])
        unlike = singles([X, Y, Z]) + [("unlike", (X, Y)), ("unlike", (Y, Z)), ("unlike", (Z, X))]
        self.assertEqual(len(rows_of(unlike, many[:59])), 59 * 58 * 57)
        self.large(60 ** 3, unlike, many)
        self.assertEqual(len(rows_of(singles([X, Y, Z]) + [("unlike", (X, 0)), ("unlike", (3, Y)), ("unlike", (Z, 9))], many[:59])), 58 ** 3)
        self.large(60 ** 3, singles([X, Y, Z]) + [("unlike", (1, 2))], many)

    def test_the_number_is_of_the_first_goals_that_have_too_many(self):
        many = [("d", (at,)) for at in range(13)]
        self.large(13 ** 5, singles(UNKNOWNS), many)
        self.large(13 ** 5, singles(UNKNOWNS[:5]) + [("d", (0,))], many)
        self.large(13 ** 5, [("d", (0,))] + singles(UNKNOWNS[:5]), many)
        self.large(8 ** 6, singles(UNKNOWNS), many[:8])
        self.assertEqual(len(rows_of(singles(UNKNOWNS), many[:7])), 7 ** 6)

    def test_200000_rows_and_one_more(self):
        rows = [("d", (at,)) for at in range(500)] + [("e", (at,)) for at in range(400)]
        goals = [("d", (X,)), ("e", (Y,))]
        self.assertEqual(len(rows_of(goals, rows)), 200000)
        self.large(200400, goals, rows + [("d", (500,))])
        self.assertEqual(len(rows_of(goals + [("unlike", (X, 500))], rows + [("d", (500,))])), 200000)

    def test_too_many_facts_are_told_first(self):
        rows = [("d", (at,)) for at in range(1999)]
        self.large(1999 ** 2, singles([X, Y]), rows)
        self.large(2001, singles([X, Y]), rows + [("e", (1,)), ("e", (2,))])

    def test_goals_that_hang_together_in_a_ring(self):
        # Paths of six steps abound, but none comes back: there are seven layers in a ring.
        rows = [("e", (layer * 100 + one, (layer + 1) % 7 * 100 + two)) for layer in range(7) for one in range(16) for two in range(16)]
        self.assertEqual(rows_of(CYCLE, rows), [])
        found = rows_of(CYCLE[:5] + [("f", (UNKNOWNS[5], UNKNOWNS[0]))], rows + [("f", (500, 0))])
        self.assertEqual(len(found), 16 ** 4)

    def test_random(self):
        source = random.Random(929)
        some, rules = 0, 0
        while rules < 500:
            goals = [(source.choice("pq"), tuple(source.choice([X, Y, Z, W, "a"]) for _ in range(source.choice([0, 1, 2, 2, 3])))) for _ in range(source.randrange(1, 5))]
            unknowns = [("?", name) for name in names_in([term for goal in goals for term in goal[1]])]
            while unknowns and len(goals) < 6 and source.random() < 0.5:
                goals.append((source.choice(["equal", "unlike"]), (source.choice(unknowns), source.choice(unknowns + ["a", 1]))))
            source.shuffle(goals)
            rule = Rule(("h", unknowns[:3]), goals)
            rows = [(source.choice("pq"), tuple(source.choice(["a", "b", 1]) for _ in range(source.choice([0, 1, 2, 2, 3])))) for _ in range(source.randrange(2, 40))]
            flat, found = FlatRule(rule, ()), known(rows)
            expected = sorted(([worth[name] for name in flat.names] for worth in slow_rows(rule, set(rows), ["a", "b", 1])), key=str)
            for made in (flat.rows_by(found), sifted(rule.goals, flat.names, found, len(expected))):
                self.assertEqual(sorted(map(list, made), key=str), expected)
            if expected:
                self.assertIsNone(sifted(rule.goals, flat.names, found, len(expected) - 1))
            some += len(expected) > 1
            rules += 1
        self.assertGreater(some, 50)

    def test_rings_of_four(self):
        source = random.Random(937)
        pairs = list(itertools.combinations(UNKNOWNS[:4], 2))
        rows = [("e", (source.randrange(30), source.randrange(30))) for _ in range(300)]
        edges = set(rows)
        expected = sum(all(("e", (row[one[1]], row[two[1]])) in edges for one, two in pairs) for row in itertools.product(range(30), repeat=4) if ("e", row[:2]) in edges and ("e", row[1:3]) in edges)
        self.assertEqual(len(sifted([("e", pair) for pair in pairs], [one[1] for one in UNKNOWNS[:4]], known(rows), 10 ** 6)), expected)
        self.assertGreater(expected, 5)


if __name__ == "__main__":
    unittest.main()
