"""[34], [35]: flat programs, and facts that come and go."""

import math
import random
import unittest

from proofsizes.errors import TooLarge
from proofsizes.flat import Held, NoFact, NotFlat, count_proofs, facts, least_proof, least_sizes
from proofsizes.programs import Program, Question, Rule
from proofsizes.proofs import answer_of, numbers_in, proofs_size
from proofsizes.searching import answered, proofs_of_size
from tests.flats import constants_of, ordered, put, random_flat, slow_facts, slow_rows
from tests.samples import COUNTS, JOINED, OWN, X, Y, Z

EDGES = [("a", "b"), ("b", "c"), ("c", "d"), ("a", "c")]
PATHS = [Rule(("path", (X, Y)), [("edge", (X, Y))]), Rule(("path", (X, Z)), [("edge", (X, Y)), ("path", (Y, Z))])]
GRAPH = Program([Rule(("edge", edge), []) for edge in EDGES] + PATHS)
RING = Program([Rule(("edge", edge), []) for edge in EDGES + [("d", "b")]] + PATHS)
NOT_FLAT = [
    Rule(("p", (X,)), []), Rule(("p", (("f", ("a",)),)), []), Rule(("p", ("a",)), [("q", (("f", ("a",)),))]), Rule(("p", (X,)), [("q", (Y,))]),
    Rule(("p", (X,)), [("equal", (X, "a"))]), Rule(("p", ("a",)), [("q", (Y,)), ("unlike", (Y, Z))]), Rule(("p", ("a",)), [("equal", (("f", ("a",)), "b"))]),
    Rule(("p", ("a",)), [("equal", (X, X))]),
]
NO_FACTS = [
    None, True, 7, "p", ("edge",), ("edge", ["a", "b"]), ["edge", ("a", "b")], ("edge", ("a", X)), ("edge", ("a", True)), ("edge", ("a", ("f", ("b",)))),
    ("Edge", ("a", "b")), ("equal", ("a", "b")), ("unlike", ("a", "b")), ("edge", ("a", "b"), 0), (None, ("a", "b")), ("edge", "ab"), ("edge", ("a", "B")),
]


def cube(many, parts):
    """A program with all rows of some constants."""
    unknowns = tuple(("?", at) for at in range(parts))
    return Program([Rule(("q", (at,)), []) for at in range(many)] + [Rule(("p", unknowns), [("q", (one,)) for one in unknowns])])


class FactsTest(unittest.TestCase):
    def test_by_hand(self):
        pairs = [("a", "b"), ("a", "c"), ("a", "d"), ("b", "c"), ("b", "d"), ("c", "d")]
        self.assertEqual(facts(GRAPH), tuple(("edge", edge) for edge in sorted(EDGES)) + tuple(("path", pair) for pair in pairs))
        self.assertEqual(facts(Program([])), ())
        self.assertEqual(facts(Program([Rule(("p", (X,)), [("q", (X,))])])), ())

    def test_order(self):
        rows = [(), ("a",), (5,), (-3,), ("b", "a"), (9, 9), (9, "a"), ("a", 1)]
        program = Program([Rule(("p", row), []) for row in rows] + [Rule(("o", ("z",)), []), Rule(("q", ()), [])])
        ascending = [(), (-3,), (5,), ("a",), (9, 9), (9, "a"), ("a", 1), ("b", "a")]
        self.assertEqual(facts(program), (("o", ("z",)),) + tuple(("p", row) for row in ascending) + (("q", ()),))

    def test_equal_and_unlike_goals(self):
        rules = [Rule(("q", (one,)), []) for one in "abc"]
        unlike = Rule(("two", (X, Y)), [("unlike", (X, Y)), ("q", (X,)), ("q", (Y,)), ("unlike", ("c", Y))])
        same = Rule(("same", (X, Y)), [("q", (X,)), ("q", (Y,)), ("equal", (Y, X)), ("unlike", (X, "b"))])
        never = Rule(("never", ()), [("equal", ("a", "b"))])
        ever = Rule(("ever", ()), [("unlike", ("a", "b")), ("equal", (1, 1))])
        found = facts(Program(rules + [unlike, same, never, ever]))
        self.assertEqual([row for name, row in found if name == "two"], [("a", "b"), ("b", "a"), ("c", "a"), ("c", "b")])
        self.assertEqual([row for name, row in found if name == "same"], [("a", "a"), ("c", "c")])
        self.assertEqual([row for name, row in found if name in ("ever", "never")], [()])

    def test_random(self):
        source = random.Random(683)
        for _ in range(150):
            program = random_flat(source)
            self.assertEqual(facts(program), tuple(ordered(slow_facts(program.rules))))

    def test_against_answers(self):
        source = random.Random(691)
        many = 0
        for _ in range(60):
            program = random_flat(source)
            sizes = least_sizes(program)
            for name, parts in (("p", 2), ("q", 2), ("r", 1), ("s", 0)):
                unknowns = [X, Y][:parts]
                told = {one.answer.terms: one.size for one in answered(program, Question(unknowns, [(name, unknowns)]), 5)}
                self.assertEqual(told, {row: sizes[one, row] for one, row in sizes if (one, len(row)) == (name, parts) and sizes[one, row] <= 5})
                many += len(told)
        self.assertGreater(many, 100)

    def test_2000_facts_and_more(self):
        self.assertEqual(len(facts(cube(12, 3))), 12 ** 3 + 12)
        for call in (facts, least_sizes, Held, lambda program: least_proof(program, None), lambda program: count_proofs(program, None)):
            self.large(13 ** 3 + 13, call, cube(13, 3))

    def test_200000_rows_and_more(self):
        unknowns = [("?", at) for at in range(6)]
        for many, let in ((7, True), (8, False)):
            rules = [Rule(("q", (at,)), []) for at in range(many)] + [Rule(("p", (unknowns[0],)), [("q", (one,)) for one in unknowns])]
            for call in (facts, least_sizes):
                if let:
                    self.assertEqual(len(call(Program(rules))), 14)
                else:
                    self.large(8 ** 6, call, Program(rules))

    def large(self, number, call, *arguments):
        with self.assertRaises(TooLarge) as caught:
            call(*arguments)
        self.assertEqual(caught.exception.number, number)


class SizesTest(unittest.TestCase):
    def test_by_hand(self):
        sizes = least_sizes(RING)
        self.assertEqual(tuple(sizes), facts(RING))
        self.assertEqual([sizes["edge", ("a", "b")], sizes["path", ("a", "b")], sizes["path", ("a", "d")], sizes["path", ("d", "d")]], [1, 2, 4, 6])
        self.assertEqual(least_proof(RING, ("path", ("a", "d"))), (6, ((3, ()), (5, ((2, ()),)))))

    def test_random(self):
        source = random.Random(701)
        for _ in range(80):
            program = random_flat(source)
            sizes = least_sizes(program)
            for fact in facts(program):
                question = Question([], [fact])
                proof = least_proof(program, fact)
                self.assertEqual(proofs_size((proof,)), sizes[fact])
                self.assertIsNotNone(answer_of(program, question, (proof,)))
                if sizes[fact] <= 6:
                    self.assertFalse([size for size in range(sizes[fact]) if proofs_of_size(program, question, size)])

    def test_large_sizes(self):
        rules = [Rule(("p0", ("a",)), [])]
        for at in range(15):
            rules.append(Rule(("p" + str(at + 1), (X,)), [("p" + str(at), (X,)), ("p" + str(at), (X,))]))
        program = Program(rules)
        self.assertEqual(least_sizes(program)["p15", ("a",)], 2 ** 16 - 1)
        self.assertEqual(len(numbers_in((least_proof(program, ("p15", ("a",))),))), 2 ** 16 - 1)
        self.assertEqual(count_proofs(program, ("p15", ("a",))), 1)


class CountTest(unittest.TestCase):
    def test_by_hand(self):
        self.assertEqual(count_proofs(GRAPH, ("path", ("a", "d"))), 2)
        self.assertEqual(count_proofs(GRAPH, ("edge", ("a", "b"))), 1)
        self.assertIsNone(count_proofs(RING, ("path", ("a", "d"))))
        self.assertEqual(count_proofs(RING, ("edge", ("a", "b"))), 1)
        self.assertIsNone(count_proofs(Program([Rule(("p", ()), []), Rule(("p", ()), [("p", ())])]), ("p", ())))
        twice = Program([Rule(("p", ()), []), Rule(("p", ()), []), Rule(("q", ()), [("p", ()), ("p", ())])])
        self.assertEqual(count_proofs(twice, ("q", ())), 4)

    def test_many(self):
        rules = [Rule(("p0", ("a",)), []), Rule(("p0", ("a",)), [])]
        for at in range(14):
            rules.append(Rule(("p" + str(at + 1), (X,)), [("p" + str(at), (X,)), ("p" + str(at), (X,))]))
        self.assertEqual(count_proofs(Program(rules), ("p14", ("a",))), 2 ** (2 ** 14))

    def test_a_ring_elsewhere(self):
        program = Program([Rule(("p", ()), []), Rule(("q", ()), [("q", ())]), Rule(("p", ()), [("q", ())]), Rule(("r", ()), [("p", ()), ("r", ())]), Rule(("r", ()), [])])
        # Nothing makes the fact that asks itself, so it makes no proofs of the first one.
        self.assertEqual(count_proofs(program, ("p", ())), 1)
        self.assertIsNone(count_proofs(program, ("r", ())))

    def test_random(self):
        source = random.Random(709)
        kinds = {True: 0, False: 0}
        for _ in range(150):
            program = random_flat(source, 7)
            for fact in facts(program):
                many = slow_count(program, facts(program), fact, [])
                self.assertEqual(count_proofs(program, fact), many)
                kinds[many is None] += 1
                if many is not None and many < 30 and least_sizes(program)[fact] < 5:
                    found = sum(len(proofs_of_size(program, Question([], [fact]), size)) for size in range(7))
                    self.assertTrue(1 <= found <= many)
        self.assertGreater(min(kinds.values()), 20)


def slow_count(program, found, fact, path):
    """How many proofs a fact has, None for endless many, by going through all of its rows again and again."""
    if fact in path:
        return None
    total = 0
    for rule in program.rules:
        for worth in slow_rows(rule, found, constants_of(program.rules)):
            if put(rule.head, worth) == fact:
                goals = [put(goal, worth) for goal in rule.goals if goal[0] not in OWN]
                counts = [slow_count(program, found, goal, path + [fact]) for goal in goals]
                if None in counts:
                    return None
                total += math.prod(counts)
    return total


class WrongTest(unittest.TestCase):
    def test_not_flat(self):
        for rule in NOT_FLAT:
            program = Program(list(PATHS) + [rule, NOT_FLAT[0]])
            for call in (facts, least_sizes, Held, lambda one: least_proof(one, None), lambda one: count_proofs(one, ("path", ("a", "b")))):
                with self.assertRaises(NotFlat) as caught:
                    call(program)
                self.assertEqual(caught.exception.number, 2)
        for program, number in ((COUNTS, 1), (JOINED, 0)):
            with self.assertRaises(NotFlat) as caught:
                facts(program)
            self.assertEqual(caught.exception.number, number)

    def test_no_facts(self):
        for fact in NO_FACTS + [("edge", ("b", "a")), ("edge", ("a",)), ("other", ("a", "b")), ("path", ("a", "a"))]:
            for call in (least_proof, count_proofs):
                with self.assertRaises(NoFact) as caught:
                    call(GRAPH, fact)
                self.assertEqual(caught.exception.fact, fact)

    def test_dicts_are_new(self):
        least_sizes(GRAPH)["p", ()] = 0
        self.assertNotIn(("p", ()), least_sizes(GRAPH))


class HeldTest(unittest.TestCase):
    def test_by_hand(self):
        held = Held(Program(PATHS))
        self.assertEqual(held.facts, ())
        self.assertEqual(held.put(("edge", ("a", "b"))), [("edge", ("a", "b")), ("path", ("a", "b"))])
        self.assertEqual(held.put(("edge", ("b", "c"))), [("edge", ("b", "c")), ("path", ("a", "c")), ("path", ("b", "c"))])
        self.assertEqual(held.facts, tuple(ordered(slow_facts(PATHS, [("edge", ("a", "b")), ("edge", ("b", "c"))]))))
        self.assertEqual(held.take(("edge", ("a", "b"))), [("edge", ("a", "b")), ("path", ("a", "b")), ("path", ("a", "c"))])
        self.assertEqual(held.facts, (("edge", ("b", "c")), ("path", ("b", "c"))))

    def test_given_and_following(self):
        held = Held(GRAPH)
        before = held.facts
        self.assertEqual(before, facts(GRAPH))
        # A fact that follows may be given: nothing comes, and nothing goes with it.
        self.assertEqual(held.put(("path", ("a", "d"))), [])
        self.assertEqual(held.put(("path", ("a", "d"))), [])
        self.assertEqual(held.facts, before)
        self.assertEqual(held.take(("path", ("a", "d"))), [])
        self.assertEqual(held.facts, before)
        self.bad(held.take, ("path", ("a", "d")))
        self.bad(held.take, ("edge", ("a", "b")))

    def test_given_twice(self):
        held = Held(Program(PATHS))
        new = held.put(("edge", (1, 2)))
        self.assertEqual(held.put(("edge", (1, 2))), [])
        self.assertEqual(held.take(("edge", (1, 2))), new)
        self.assertEqual(held.facts, ())
        self.bad(held.take, ("edge", (1, 2)))
        self.assertEqual(held.put(("edge", (1, 2))), new)

    def test_a_given_fact_that_others_make_too(self):
        held = Held(Program(PATHS))
        held.put(("path", ("a", "b")))
        self.assertEqual(held.put(("edge", ("a", "b"))), [("edge", ("a", "b"))])
        self.assertEqual(held.take(("path", ("a", "b"))), [])
        self.assertEqual(held.take(("edge", ("a", "b"))), [("edge", ("a", "b")), ("path", ("a", "b"))])

    def bad(self, call, fact):
        with self.assertRaises(NoFact) as caught:
            call(fact)
        self.assertEqual(caught.exception.fact, fact)

    def test_no_facts(self):
        held = Held(GRAPH)
        for fact in NO_FACTS:
            self.bad(held.put, fact)
            self.bad(held.take, fact)
        for fact in (("edge", ("a", "b")), ("other", ()), ("edge", ("x", "y"))):
            self.bad(held.take, fact)
        self.assertEqual(held.facts, facts(GRAPH))

    def test_random(self):
        source = random.Random(719)
        for _ in range(60):
            program = random_flat(source)
            held, given = Held(program), []
            for _ in range(12):
                fact = source.choice([("p", (source.choice("abc"), 1)), ("r", (source.choice("ab"),)), ("s", ()), ("new", (7, 7))])
                before = held.facts
                if source.random() < 0.6:
                    changed = held.put(fact)
                    given = given if fact in given else given + [fact]
                    self.assertEqual(changed, [one for one in held.facts if one not in before])
                elif fact in given:
                    changed = held.take(fact)
                    given.remove(fact)
                    self.assertEqual(changed, [one for one in before if one not in held.facts])
                else:
                    self.bad(held.take, fact)
                self.assertEqual(held.facts, tuple(ordered(slow_facts(program.rules, given))))

    def test_2000_facts_and_more(self):
        held = Held(Program([]))
        for at in range(2000):
            held.put(("p", (at,)))
        self.large(2001, held, ("p", (2000,)))
        self.assertEqual(held.put(("p", (7,))), [])
        self.assertEqual(held.take(("p", (7,))), [("p", (7,))])
        self.assertEqual(held.put(("p", (2000,))), [("p", (2000,))])
        self.assertEqual(held.facts, tuple(("p", (at,)) for at in range(2001) if at != 7))

    def test_2000_facts_and_more_that_follow(self):
        held = Held(Program([Rule(("pair", (X, Y)), [("q", (X,)), ("q", (Y,))])]))
        for at in range(44):
            held.put(("q", (at,)))
        before = held.facts
        self.assertEqual(len(before), 44 * 45)
        self.large(45 * 46, held, ("q", (44,)))
        self.assertEqual(held.facts, before)
        self.bad(held.take, ("q", (44,)))
        self.assertEqual(len(held.put(("r", ()))), 1)

    def test_200000_rows_and_more(self):
        unknowns = [("?", at) for at in range(6)]
        held = Held(Program([Rule(("p", (unknowns[0],)), [("q", (one,)) for one in unknowns])]))
        for at in range(7):
            held.put(("q", (at,)))
        self.large(8 ** 6, held, ("q", (7,)))
        self.assertEqual(len(held.facts), 14)
        self.assertEqual(len(held.take(("q", (3,)))), 2)
        self.assertEqual(len(held.put(("q", (7,)))), 2)

    def test_few_rows_of_many_facts(self):
        # 60 * 60 * 60 rows of the first goals have few rows of all goals within them.
        unknowns = (X, Y, Z)
        held = Held(Program([Rule(("p", unknowns), [("q", (one,)) for one in unknowns] + [("link", unknowns)])]))
        for at in range(60):
            held.put(("q", (at,)))
        self.assertEqual(held.put(("link", (3, 4, 5))), [("link", (3, 4, 5)), ("p", (3, 4, 5))])
        self.assertEqual(held.put(("link", (3, 4, 60))), [("link", (3, 4, 60))])

    def large(self, number, held, fact):
        with self.assertRaises(TooLarge) as caught:
            held.put(fact)
        self.assertEqual(caught.exception.number, number)

    def test_a_long_chain(self):
        held = Held(Program([Rule(("n", (Y,)), [("n", (X,)), ("next", (X, Y))])]))
        for at in range(150):
            held.put(("next", (at, at + 1)))
        self.assertEqual(len(held.put(("n", (0,)))), 151)
        self.assertEqual(len(held.take(("next", (75, 76)))), 76)

    def test_lists_are_new(self):
        held = Held(Program(PATHS))
        held.put(("edge", ("a", "b"))).append(None)
        self.assertEqual(len(held.facts), 2)
        self.assertIsInstance(held.facts, tuple)


if __name__ == "__main__":
    unittest.main()
