"""[33]: counts of terms and proofs of shallow programs."""

import random
import unittest

from proofsizes.counting import count_terms, proof_of
from proofsizes.errors import TooLarge
from proofsizes.programs import Program, Question, Rule
from proofsizes.proofs import answer_of, proofs_size
from proofsizes.searching import proofs_of_size
from proofsizes.shallow import NotShallow, all_terms, model_of, type_of, types
from proofsizes.terms import parts_of
from tests.samples import JOINED, X, Y, Z, wrapped
from tests.shallows import ALL_ROWS, ALL_TERMS, EVEN, NAMES, random_shallow, slow_types, spoken_of, terms_by_signs
from tests.test_shallow import NOT_SHALLOW, bits, letters

TREES = Program([Rule(("p", (0,)), []), Rule(("p", (("f", (X, Y)),)), [("p", (X,)), ("p", (Y,))])])


class CountTest(unittest.TestCase):
    def test_by_hand(self):
        self.assertEqual(count_terms(EVEN, "nat", 6), (0, 1, 1, 1, 1, 1, 1))
        self.assertEqual(count_terms(EVEN, "even", 6), (0, 1, 0, 1, 0, 1, 0))
        self.assertEqual(count_terms(EVEN, "other", 3), (0, 0, 0, 0))
        self.assertEqual(count_terms(EVEN, "nat", 0), (0,))
        self.assertEqual(count_terms(EVEN, "nat", 1), (0, 1))
        catalan = (0, 1, 0, 1, 0, 2, 0, 5, 0, 14, 0, 42, 0, 132, 0, 429, 0, 1430, 0, 4862, 0)
        self.assertEqual(count_terms(TREES, "p", 20), catalan)
        self.assertEqual(count_terms(Program([]), "p", 20), (0,) * 21)

    def test_of_what_the_program_speaks_alone(self):
        program = Program([Rule(("all", (X,)), []), Rule(("p", ("a",)), []), Rule(("p", ("b",)), [("never", (X,))]), Rule(("p", (("f", (X, Y)),)), [("never", (X,))])])
        self.assertEqual(count_terms(program, "all", 5), (0, 2, 0, 4, 0, 16))
        self.assertEqual(count_terms(program, "p", 5), (0, 1, 0, 0, 0, 0))
        self.assertEqual(count_terms(Program([Rule(("all", (X,)), [])]), "all", 5), (0,) * 6)

    def test_random(self):
        source = random.Random(661)
        for _ in range(100):
            program = random_shallow(source)
            model, met = model_of(program), types(program)
            rows = terms_by_signs(*spoken_of(program), 6)
            for name in NAMES:
                many = tuple(sum(name in met[model.state(term, {})] for term in row) for row in rows)
                self.assertEqual(count_terms(program, name, 6), many)
                self.assertEqual(count_terms(program, name, 20)[:7], many)

    def test_against_all_terms(self):
        source = random.Random(673)
        many = 0
        for _ in range(100):
            program = random_shallow(source)
            constants, _ = spoken_of(program)
            for name in NAMES:
                told = all_terms(program, name)
                if told is not None:
                    sizes = [len(parts_of(term)) for term in told]
                    self.assertEqual(count_terms(program, name, 20), tuple(sizes.count(size) for size in range(21)))
                    many += len(told)
        self.assertGreater(many, 50)

    def test_wide_compounds(self):
        unknowns = tuple(("?", at) for at in range(7))
        program = Program([Rule(("p", ("a",)), []), Rule(("p", (("f", unknowns),)), [("p", (one,)) for one in unknowns[:3]]), Rule(("q", ("b",)), [])])
        # Behind 8 signs a compound is among the parts: of the relation among the first ones, and any one behind.
        small, other = 2 ** 4, 2 ** 7 - 2 ** 4
        first, behind = 3 * small * 2 ** 4, 4 * (small + other) * 2 ** 3
        self.assertEqual(count_terms(program, "p", 20), (0, 1) + (0,) * 6 + (small,) + (0,) * 6 + (first + behind,) + (0,) * 5)

    def test_wrong_sizes(self):
        for most in (-1, 21, None, True, "3", ()):
            for program in (EVEN, JOINED, letters(16)):
                with self.assertRaises(TooLarge) as caught:
                    count_terms(program, "nat", most)
                self.assertEqual(caught.exception.number, most)


class ProofTest(unittest.TestCase):
    def check(self, program, name, term):
        proof = proof_of(program, name, term)
        self.assertIsNotNone(answer_of(program, Question([], [(name, (term,))]), (proof,)))
        return proof

    def test_by_hand(self):
        self.assertEqual(self.check(EVEN, "nat", wrapped(2, 0)), (3, ((2, ((1, ((0, ()),)),)),)))
        self.assertEqual(self.check(TREES, "p", ("f", (0, 0))), (1, ((0, ()), (0, ()))))
        self.assertIsNone(proof_of(EVEN, "odd", wrapped(2, 0)))
        self.assertIsNone(proof_of(EVEN, "other", 0))
        self.assertIsNone(proof_of(Program([]), "p", "a"))

    def test_terms_elsewhere(self):
        program = Program([Rule(("s", ("a",)), [("s", (Y,))]), Rule(("s", ("b",)), [])])
        self.assertEqual(self.check(program, "s", "a"), (0, ((1, ()),)))
        program = Program(
            [Rule(("p", ("a",)), [("q", (X,)), ("r", (X,)), ("q", (Y,))]), Rule(("q", (("f", (X,)),)), [("s", (X,))]), Rule(("r", (("f", (X,)),)), [("s", (Y,)), ("t", (Z,))]),
             Rule(("s", ("b",)), []), Rule(("t", (X,)), [("s", (Y,))]), Rule(("q", (X,)), [("p", (X,)), ("p", (Y,))])]
        )
        for term in ("a", wrapped(1, "b", "f"), wrapped(3, "a", "f")):
            for name in type_of(program, term):
                self.check(program, name, term)
        self.check(program, "q", "a")

    def test_random(self):
        source = random.Random(677)
        many = 0
        for _ in range(60):
            program = random_shallow(source)
            found = slow_types(program, ALL_TERMS)
            for term in ALL_ROWS[1] + source.sample(ALL_TERMS, 15):
                for name in NAMES:
                    if name in found[term]:
                        proof = self.check(program, name, term)
                        many += 1
                        if proofs_size((proof,)) <= 4 and not any(names_elsewhere(rule) for rule in program.rules):
                            question = Question([], [(name, (term,))])
                            self.assertFalse(any(proofs_of_size(program, question, size) for size in range(proofs_size((proof,)))))
                    else:
                        self.assertIsNone(proof_of(program, name, term))
        self.assertGreater(many, 500)

    def test_5000_rules_and_more(self):
        term = 0
        for level in range(1, 15):
            term = ("f", (term, term))
            size = 2 ** (level + 1) - 1
            if size <= 5000:
                self.assertEqual(proofs_size((proof_of(TREES, "p", term),)), size)
            else:
                self.large(size, TREES, "p", term)

    def test_2000_facts_and_more(self):
        program = Program([Rule(("p", (X,)), [])])
        for many, let in ((999, True), (1000, True), (1999, True), (2000, False), (2500, False)):
            term = ("f", tuple(range(many)))
            if let:
                self.assertEqual(proof_of(program, "p", term), (0, ()))
            else:
                self.large(many + 1, program, "p", term)
        two = Program(list(program.rules) + [Rule(("q", (X,)), [("p", (X,))])])
        self.assertEqual(proof_of(two, "q", ("f", tuple(range(999)))), (1, ((0, ()),)))
        self.large(2002, two, "q", ("f", tuple(range(1000))))

    def large(self, number, program, name, term):
        with self.assertRaises(TooLarge) as caught:
            proof_of(program, name, term)
        self.assertEqual(caught.exception.number, number)

    def test_wrong(self):
        for rule in NOT_SHALLOW:
            for call in (lambda program: count_terms(program, "p", 3), lambda program: proof_of(program, "p", X)):
                with self.assertRaises(NotShallow) as caught:
                    call(Program([EVEN.rules[0], rule, rule]))
                self.assertEqual(caught.exception.number, 1)
        for term in (X, ("f", (X,)), None, True, wrapped(20, 0)):
            for program in (EVEN, letters(16)):
                with self.assertRaises(NotShallow) as caught:
                    proof_of(program, "even", term)
                self.assertIsNone(caught.exception.number)
        for call in (lambda program: count_terms(program, "p", 3), lambda program: proof_of(program, "p", 0)):
            for program, number in ((letters(16), 17), (bits(5), 32)):
                with self.assertRaises(TooLarge) as caught:
                    call(program)
                self.assertEqual(caught.exception.number, number)


def names_elsewhere(rule):
    inner = [part for part in parts_of(rule.head[1][0])]
    return [goal for goal in rule.goals if goal[1][0] not in inner]


if __name__ == "__main__":
    unittest.main()
