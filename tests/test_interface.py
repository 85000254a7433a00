"""The interface: names, arguments and attributes as the document lists them, each in its own file."""

import importlib
import inspect
import pathlib
import unittest

import proofsizes
from proofsizes import congruence, following, uniform
from proofsizes.errors import RelationError
from proofsizes.flat import NoFact
from proofsizes.programs import Program

# For each file: errors, classes with their methods, and functions, each with the names of its arguments.
ERRORS = {
    "errors": ["BadTerm(place)", "BadRule(number, part)", "BadQuestion(part)", "BadAnswer(part)", "TooLarge(number)"],
    "lexing": ["BadText(line, column)"],
    "sessions": ["NoStep()"],
    "gaps": ["BadBound(number)"],
    "closed": ["BadSignature(part)"],
    "models": ["BadModel(part)"],
    "shallow": ["NotShallow(number)"],
    "flat": ["NotFlat(number)", "NoFact(fact)"],
    "uniform": ["NotPlain(number)"],
    "strata": ["BadBarred(number)", "NoStrata(ring)"],
}
EVIDENCE = {
    "solving": ["shows(equations)", "Solved(bound)", "Unsolved(steps, ring)"],
    "stores": ["shows(equations, inequations)", "Valued(ground)", "NoValues(number, paper)"],
    "covering": ["shows(answer, answers)", "Covered()", "Outside(row)"],
    "searching": ["shows(program, question)", "Spent(levels)", "StillOpen(levels)"],
    "completing": ["shows(one, other)", "SameInstances()", "OneSided(row, is_first)"],
    "following": ["shows(equations, inequations, other)", "Follows(number)", "Against(ground)"],
    "gaps": ["shows(bounds)", "Placed(places)", "Round(numbers)"],
    "gapsets": ["shows(bounds, lots)", "Within()", "Beside(places)"],
    "congruence": ["shows(equations, pair)", "Equal(steps)", "Apart(constants, compounds, beyond)"],
    "closed": ["shows(signature, equations, inequations)", "Filled(ground)", "Unfilled()"],
    "shallow": ["shows(program, question)", "Has(terms)"],
    "uniform": ["shows(program, rule)", "Follows(proof)", "Apart(facts)"],
    "differing": ["shows(one, other, name)", "SameTerms()", "OnlyOne(term)"],
    "regular": ["shows(one, other)", "SameSet()", "InOne(term)"],
    "strata": ["shows(rules)", "Strata(numbers)", "Ringed(ring)"],
    "patterns": ["shows(one, pattern)", "AllIn()", "NotIn(terms)"],
}
MORE_EVIDENCE = {
    "completing": ["shows(program, question)", "Complete(levels, answers)"],
    "gaps": ["shows(bounds, bound)", "Chain(numbers)", "Broken(places)"],
    "closed": ["shows(signature, terms, patterns)", "AllMet()", "Unmet(row)"],
}
CLASSES = {
    "answers": ["Answer(terms, inequations)"],
    "programs": ["Rule(head, goals)", "Program(rules)", "Question(terms, goals)"],
    "searching": ["Answered(answer, size, proofs) shows(program, question)"],
    "unfolding": ["Unfolded(program, numbers)", "Needless(by, terms) shows(program, number)"],
    "streams": ["Came(proofs, steps, is_over)"],
    "closed": ["Signature(constants, compounds) has(term)"],
    "congruence": ["Apart(constants, compounds, beyond) state(term)"],
    "models": [
        "Model(many, constants, other, compounds, beyond, relations) __bool__() state(term, values) holds(program) "
        "bars(question) shows(program, question)"
    ],
    "regular": [
        "TermSet(many, constants, compounds, other, good) state(term) has(term)", "Fewest(terms, parting) shows(one)"
    ],
    "strata": ["Barred(head, goals, nots)"],
}
FUNCTIONS = {
    "solving": "solve(equations)",
    "stores": "judge_values(equations, inequations)",
    "answers": "is_instance(answer, row)",
    "covering": "judge_covered(answer, answers)",
    "proofs": "proofs_size(proofs); proofs_levels(proofs); answer_of(program, question, proofs)",
    "searching": "proofs_of_size(program, question, size); answered(program, question, most); "
    "judge_spent(program, question, most); opened(program, question, levels); "
    "proofs_of_levels(program, question, levels)",
    "completing": "complete(program, question, most); judge_instances(one, other)",
    "unfolding": "unfolded(program, number, place); carried(program, number, place, question, proofs); "
    "needless(program, number); without_rule(program, number)",
    "texts": "read_program(text); read_question(text); write_program(program); write_question(question); "
    "write_answer(answer)",
    "following": "judge_follows(equations, inequations, other)",
    "meeting": "meet(one, other); kept(answer, places); least_pattern(one, other); is_pattern_of(pattern, answer)",
    "falling": "is_falling(program, places); first_standing(program, places); falling_places(program); "
    "levels_for(program, places, question); reached_rules(program, question); for_question(program, question)",
    "forward": "facts_of_size(program, size)",
    "streams": "from_left(program, question, steps); in_turns(program, question, steps); "
    "open_answers(program, question, levels)",
    "scripts": "run_script(text)",
    "gaps": "judge_gaps(bounds); closed(bounds); judge_bound(bounds, bound)",
    "gapsets": "judge_within(bounds, lots); judge_same_bounds(one, other); without_name(bounds, name); "
    "needless_bounds(bounds); least_bounds(bounds); count_places(bounds, most)",
    "congruence": "judge_equal(equations, pair); classes_of(equations, terms); least_equal(equations, term); "
    "equal_terms(equations, term, signs); are_endless(equations, term)",
    "closed": "judge_filled(signature, equations, inequations); judge_patterns(signature, terms, patterns); "
    "needless_patterns(signature, patterns)",
    "prooftexts": "write_proofs(program, question, proofs); read_proofs(program, question, text)",
    "tabling": "tabled(program, question, most)",
    "models": "least_rows(model, program); with_rows(model, relations)",
    "shallow": "types(program); type_of(program, term); model_of(program); judge_shallow(program, question); "
    "least_terms(program); is_within(program, name, other); is_empty(program, name); all_terms(program, name)",
    "counting": "count_terms(program, name, most); proof_of(program, name, term)",
    "flat": "facts(program); least_sizes(program); least_proof(program, fact); count_proofs(program, fact)",
    "uniform": "judge_follows(program, rule); is_same(one, other); shrunk(program)",
    "supports": "supports(program, fact); survives(program, fact, gone); must_have(program, fact)",
    "differing": "judge_programs(one, other, name); needless_rules(program)",
    "regular": "relation_set(program, name); others(one); both(one, other); either(one, other); judge_sets(one, other); "
    "least_set(one); fewest(one)",
    "strata": "judge_strata(rules); layered_facts(rules); is_supported(rules, facts)",
    "patterns": "judge_pattern(one, pattern); some_in(one, pattern); instances_set(pattern)",
}


def parted(text):
    """The name and the names of the arguments of what is written as a call."""
    name, inner = text.strip(")").split("(")
    return name, [argument for argument in inner.split(", ") if argument]


def arguments_of(function):
    return [name for name in inspect.signature(function).parameters if name != "self"]


class InterfaceTest(unittest.TestCase):
    def defined(self, module, text):
        """What is defined under a name in a file, with its arguments."""
        name, arguments = parted(text)
        thing = getattr(importlib.import_module("proofsizes." + module), name)
        self.assertEqual(thing.__module__, "proofsizes." + module)
        if not isinstance(thing, type) or "__init__" in thing.__dict__:
            self.assertEqual(arguments_of(thing), arguments, text)
        else:
            self.assertEqual(arguments, [], text)
        return thing

    def method(self, kind, text):
        name, arguments = parted(text)
        self.assertIn(name, kind.__dict__, kind)
        self.assertEqual(arguments_of(kind.__dict__[name]), arguments, kind)

    def test_errors(self):
        for module, texts in ERRORS.items():
            for text in texts:
                kind = self.defined(module, text)
                self.assertIs(kind.__bases__[0], RelationError)
                made = kind(*parted(text)[1])
                self.assertEqual([getattr(made, name) for name in parted(text)[1]], parted(text)[1])
                self.assertIsInstance(made, ValueError)

    def test_evidence(self):
        for table in (EVIDENCE, MORE_EVIDENCE):
            for module, (shows, *texts) in table.items():
                for text in texts:
                    kind = self.defined(module, text)
                    self.method(kind, shows)
                    self.method(kind, "__eq__(other)")
                    self.method(kind, "__bool__()")
                    made = kind(*[None] * len(parted(text)[1]))
                    self.assertEqual(list(vars(made)), parted(text)[1])
                    self.assertEqual(made, kind(*[None] * len(parted(text)[1])))
                    self.assertIn(bool(made), (True, False))

    def test_classes(self):
        for module, texts in CLASSES.items():
            for text in texts:
                made, *methods = text.split(") ")
                kind = self.defined(module, made + ")")
                self.method(kind, "__eq__(other)")
                for one in methods[0].replace(") ", ")|").split("|") if methods else []:
                    self.method(kind, one)

    def test_desk(self):
        desk = self.defined("sessions", "Desk(program)")
        for text in ("ask(question)", "more()", "put(rule)", "take(number)", "uses(number)", "undo()"):
            self.method(desk, text)
        for name in ("program", "question", "size", "told"):
            self.assertTrue(hasattr(desk(None), name))

    def test_held(self):
        held = self.defined("flat", "Held(program)")
        for text in ("put(fact)", "take(fact)"):
            self.method(held, text)
        self.assertEqual(held(Program([])).facts, ())

    def test_bad_numbers(self):
        kind = self.defined("supports", "BadNumbers(gone)")
        self.assertEqual((kind.__bases__, vars(kind([1]))), ((NoFact,), {"fact": [1]}))

    def test_all_errors_are_relation_errors(self):
        for path in sorted(pathlib.Path(proofsizes.__file__).parent.glob("*.py")):
            module = importlib.import_module("proofsizes." + path.stem)
            for thing in vars(module).values():
                if isinstance(thing, type) and issubclass(thing, Exception):
                    self.assertTrue(issubclass(thing, RelationError), thing)

    def test_classes_of_one_name_are_unlike(self):
        self.assertNotEqual(following.Follows(0), uniform.Follows(0))
        self.assertNotEqual(uniform.Follows(0), following.Follows(0))
        self.assertNotEqual(congruence.Apart({}, {}, 0), uniform.Apart(()))

    def test_functions(self):
        for module, texts in FUNCTIONS.items():
            for text in texts.split("; "):
                self.assertTrue(callable(self.defined(module, text)))


if __name__ == "__main__":
    unittest.main()
