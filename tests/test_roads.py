"""The same answers come by every road: by search, tables, facts from below, types and models, flat facts, strata."""

import copy
import random
import unittest

from proofsizes.completing import complete
from proofsizes.counting import count_terms, proof_of
from proofsizes.flat import count_proofs, facts, least_proof, least_sizes
from proofsizes.forward import facts_of_size
from proofsizes.models import least_rows, with_rows
from proofsizes.programs import Program, Question, Rule
from proofsizes.proofs import proofs_size
from proofsizes.prooftexts import read_proofs, write_proofs
from proofsizes.regular import both, fewest, least_set, relation_set
from proofsizes.patterns import judge_pattern, some_in
from proofsizes.searching import answered
from proofsizes.shallow import all_terms, judge_shallow, least_terms, model_of, type_of
from proofsizes.strata import Barred, is_supported, judge_strata, layered_facts
from proofsizes.supports import supports
from proofsizes.tabling import tabled
from proofsizes.terms import names_in
from proofsizes.uniform import judge_follows, shrunk
from tests.flats import random_flat
from tests.samples import X, Y, Z
from tests.shallows import ALL_ROWS, EVEN, NAMES, random_shallow, spoken_of, terms_by_signs

RELATIONS = [("p", 2), ("q", 2), ("r", 1), ("s", 0)]


def sizes_told(told):
    return {answer.terms: size for size, answer in told}


class FlatTest(unittest.TestCase):
    def test_tables_and_least_sizes(self):
        source = random.Random(857)
        many = 0
        for _ in range(80):
            program = random_flat(source)
            sizes = least_sizes(program)
            for name, parts in RELATIONS:
                unknowns = [X, Y][:parts]
                told = tabled(program, Question(unknowns, [(name, unknowns)]), 40)
                self.assertEqual(sizes_told(told), {row: sizes[one, row] for one, row in sizes if (one, len(row)) == (name, parts)})
                many += len(told)
        self.assertGreater(many, 100)

    def test_facts_from_below_search_and_strata(self):
        source = random.Random(859)
        for _ in range(60):
            program = random_flat(source)
            sizes = least_sizes(program)
            found = {}
            for size in range(1, 6):
                for (name, _), answers in facts_of_size(program, size).items():
                    for answer in answers:
                        found.setdefault((name, answer.terms), size)
            self.assertEqual(found, {fact: sizes[fact] for fact in sizes if sizes[fact] < 6})
            self.assertEqual(layered_facts([Barred(rule.head, rule.goals, []) for rule in program.rules]), facts(program))

    def test_proofs_and_their_texts(self):
        source = random.Random(863)
        for _ in range(60):
            program = random_flat(source)
            for fact in facts(program):
                question, proof = Question([], [fact]), (least_proof(program, fact),)
                text = write_proofs(program, question, proof)
                self.assertEqual(text.count("\n") + 1, least_sizes(program)[fact])
                self.assertEqual(read_proofs(program, question, text), proof)

    def test_shrunk_programs_have_the_same_facts(self):
        source = random.Random(877)
        for _ in range(60):
            program = random_flat(source, 6, True)
            self.assertEqual(facts(shrunk(program)), facts(program))


class ShallowTest(unittest.TestCase):
    def test_tables_and_types(self):
        source = random.Random(881)
        for _ in range(40):
            program = random_shallow(source, 6)
            for term in ALL_ROWS[1] + ALL_ROWS[2][::2] + ALL_ROWS[3][::9]:
                for name in NAMES:
                    told = tabled(program, Question([], [(name, (term,))]), 6)
                    proof = proof_of(program, name, term)
                    if told:
                        self.assertLessEqual(told[0][0], proofs_size((proof,)))
                        self.assertIn(name, type_of(program, term))
                    if proof is not None and proofs_size((proof,)) <= 6:
                        self.assertTrue(told)
                    if told and not any(asks_elsewhere(rule) for rule in program.rules):
                        self.assertEqual(told[0][0], proofs_size((proof,)))

    def test_questions(self):
        source = random.Random(883)
        kinds = {True: 0, False: 0}
        for _ in range(80):
            program = random_shallow(source, 6)
            question = Question([X, Y], [(source.choice(NAMES), (source.choice([X, Y, ("f", (X,)), ("g", (X, Y))]),)) for _ in range(2)])
            paper = judge_shallow(program, question)
            told = tabled(program, question, 8)
            kinds[bool(told)] += 1
            self.assertTrue(paper or not told)
            self.assertEqual(told, [(one.size, one.answer) for one in answered(program, question, 6)] + [one for one in told if one[0] > 6])
            spent = complete(program, question, 4)
            if spent:
                self.assertEqual(bool(spent.answers), bool(paper))
        self.assertGreater(min(kinds.values()), 10)

    def test_counts_and_sets(self):
        source = random.Random(887)
        for _ in range(40):
            program = random_shallow(source)
            rows = terms_by_signs(*spoken_of(program), 5)
            for name in NAMES:
                least = least_set(relation_set(program, name))
                self.assertEqual(count_terms(program, name, 5), tuple(sum(least.has(term) for term in row) for row in rows))

    def test_models_of_types_are_least(self):
        source = random.Random(907)
        for _ in range(40):
            program = random_shallow(source)
            model = model_of(program)
            self.assertEqual(least_rows(model, program), model)


def asks_elsewhere(rule):
    return any(goal[1][0][1] not in names_in(rule.head[1]) for goal in rule.goals)


class KeptTest(unittest.TestCase):
    """Arguments stay as they are, and what is returned is new each time."""

    def check(self, call, *arguments):
        before = copy.deepcopy(arguments)
        first = call(*arguments)
        self.assertEqual(arguments, before)
        told = copy.deepcopy(first)
        if isinstance(first, list):
            first.append(None)
        elif isinstance(first, dict):
            first["more"] = None
        self.assertEqual(call(*arguments), told)
        self.assertEqual(arguments, before)

    def test_functions(self):
        flat = random_flat(random.Random(911), 8)
        rules = [Barred(rule.head, list(rule.goals), []) for rule in flat.rules]
        evens = relation_set(EVEN, "even")
        self.check(tabled, EVEN, Question([X], [("nat", (X,))]), 5)
        self.check(least_terms, EVEN)
        self.check(all_terms, Program([Rule(("p", ("a",)), [])]), "p")
        self.check(judge_shallow, EVEN, Question([X], [("even", (X,)), ("odd", (Y,))]))
        self.check(with_rows, model_of(EVEN), {("new", 1): [[0], [1]]})
        self.check(least_sizes, flat)
        self.check(layered_facts, rules)
        self.check(judge_strata, rules)
        self.check(is_supported, rules, [("p", ("a", "b"))])
        self.check(fewest, evens)
        self.check(both, evens, evens)
        self.check(some_in, evens, ("s", (X,)))
        self.check(judge_pattern, evens, ("s", (X,)))
        plain = random_flat(random.Random(919), 6, True)
        self.check(judge_follows, plain, Rule(("new", (X,)), [("p", (X, Y)), ("q", (Y, Z))]))
        self.check(supports, flat, facts(flat)[0])
        self.check(count_proofs, flat, facts(flat)[0])


if __name__ == "__main__":
    unittest.main()
