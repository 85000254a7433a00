"""[29], [30]: models that hold programs and bar questions."""

import itertools
import random
import unittest

from proofsizes.errors import TooLarge
from proofsizes.models import BadModel, Model, least_rows, with_rows
from proofsizes.programs import Program, Question, Rule
from proofsizes.searching import Spent, answered
from proofsizes.terms import names_in
from tests.samples import JOINED, W, X, Y, Z, random_program, random_question, relation, wrapped

EVEN = Program([Rule(("even", (0,)), []), Rule(("even", (wrapped(2, X),)), [("even", (X,))])])
ODD = Question([X], [("even", (X,)), ("even", (wrapped(1, X),))])
PARTS = (2, {0: 0}, 0, {("s", 1): {(0,): 1, (1,): 0}}, 1, {("even", 1): [(0,)]})
NAMES = ("many", "constants", "other", "compounds", "beyond", "relations")


def model_with(**parts):
    return Model(**{**dict(zip(NAMES, PARTS)), **parts})


def slow_state(model, term, values):
    if term in model.constants:
        return model.constants[term]
    if not isinstance(term, tuple):
        return model.other
    if term[0] == "?":
        return values[term[1]]
    inner = tuple(slow_state(model, part, values) for part in term[1])
    return model.compounds[term[0], len(inner)][inner] if (term[0], len(inner)) in model.compounds else model.beyond


def slow_is_so(model, goal, values):
    states = tuple(slow_state(model, term, values) for term in goal[1])
    if goal[0] == "equal":
        return states[0] == states[1]
    return goal[0] == "unlike" or states in model.relations.get(relation(goal), ())


def slow_values(model, goals):
    names = names_in([term for goal in goals for term in goal[1]])
    for row in itertools.product(range(model.many), repeat=len(names)):
        yield dict(zip(names, row))


def slow_asked(model, program):
    """The heads, with rows, that rules ask."""
    for rule in program.rules:
        for values in slow_values(model, (rule.head,) + rule.goals):
            if all(slow_is_so(model, goal, values) for goal in rule.goals):
                yield relation(rule.head), tuple(slow_state(model, term, values) for term in rule.head[1])


def slow_holds(model, program):
    return all(row in model.relations.get(key, ()) for key, row in slow_asked(model, program))


def slow_bars(model, question):
    ways = slow_values(model, question.goals)
    return not any(all(slow_is_so(model, goal, values) for goal in question.goals) for values in ways)


def slow_least(model, program):
    found = Model(model.many, model.constants, model.other, model.compounds, model.beyond, {})
    while not slow_holds(found, program):
        rows = {key: list(found.relations[key]) for key in found.relations}
        for key, row in slow_asked(found, program):
            rows.setdefault(key, []).append(row)
        found = Model(model.many, model.constants, model.other, model.compounds, model.beyond, rows)
    return found


def random_model(source):
    many = source.randrange(1, 4)
    constants = {one: source.randrange(many) for one in ("a", "b", 0) if source.random() < 0.6}
    compounds = {}
    for parts in (1, 2):
        if source.random() < 0.7:
            rows = itertools.product(range(many), repeat=parts)
            compounds["f", parts] = {row: source.randrange(many) for row in rows}
    relations = {}
    for name, parts in (("p", 1), ("q", 2)):
        rows = list(itertools.product(range(many), repeat=parts))
        relations[name, parts] = [row for row in rows if source.random() < 0.5]
    return Model(many, constants, source.randrange(many), compounds, source.randrange(many), relations)


class ModelTest(unittest.TestCase):
    def test_attributes(self):
        rows = [[1, 0], (0, 1), [1, 0]]
        model = model_with(relations={("q", 2): rows, ("p", 0): [()], ("none", 3): [], ("even", 1): ((0,),)})
        self.assertEqual((model.many, model.constants, model.other, model.beyond), (2, {0: 0}, 0, 1))
        self.assertEqual(model.compounds, {("s", 1): {(0,): 1, (1,): 0}})
        self.assertEqual(model.relations, {("even", 1): ((0,),), ("p", 0): ((),), ("q", 2): ((0, 1), (1, 0))})
        self.assertEqual(rows, [[1, 0], (0, 1), [1, 0]])
        self.assertIs(bool(model), False)

    def test_dicts_are_not_kept(self):
        parts = [2, {0: 0}, 0, {("s", 1): {(0,): 1, (1,): 0}}, 1, {("even", 1): [[0]]}]
        model = Model(*parts)
        parts[1]["a"] = 1
        parts[3]["s", 1][0,] = 0
        parts[5]["even", 1].append([1])
        parts[5]["odd", 1] = []
        self.assertEqual(model, Model(*PARTS))

    def test_equal(self):
        model = Model(*PARTS)
        self.assertEqual(model, Model(*PARTS))
        changes = [3, {0: 1}, 1, {}, 0, {("even", 1): [(1,)]}]
        for name, worth in zip(NAMES, changes):
            if name != "many":
                self.assertNotEqual(model, model_with(**{name: worth}))
        self.assertNotEqual(model, Model(3, {0: 0}, 0, {}, 1, {}))
        for other in (None, 0, PARTS, Spent(0), ODD):
            self.assertNotEqual(model, other)

    def test_states(self):
        model = Model(*PARTS)
        self.assertEqual([model.state(wrapped(at, 0), {}) for at in range(5)], [0, 1, 0, 1, 0])
        self.assertEqual([model.state(term, {}) for term in (7, "a", ("t", (0,)), ("s", (0, 0)), wrapped(2, ("t", (0,))))], [0, 0, 1, 1, 1])
        self.assertEqual([model.state(wrapped(3, X), {"x": state}) for state in (0, 1)], [1, 0])
        self.assertEqual(model.state(("t", (X, ("?", 4))), {"x": 0, 4: 1}), 1)
        self.assertEqual(model.state(wrapped(180, 0), {}), 0)

    def test_holds_and_bars(self):
        model = Model(*PARTS)
        self.assertIs(model.holds(EVEN), True)
        self.assertIs(model.bars(ODD), True)
        self.assertIs(model.shows(EVEN, ODD), True)
        self.assertEqual(answered(EVEN, ODD, 8), [])
        self.assertIs(model.bars(Question([X], [("even", (X,))])), False)
        self.assertIs(model.shows(EVEN, Question([X], [("even", (X,))])), False)

    def test_bent_models(self):
        for change in (
            {"constants": {0: 1}}, {"relations": {}}, {"relations": {("even", 1): [(1,)]}}, {"relations": {("even", 2): [(0, 0)]}},
            {"compounds": {("s", 1): {(0,): 1, (1,): 1}}}, {"compounds": {("s", 1): {(0,): 0, (1,): 0}}}, {"compounds": {}, "beyond": 0},
            {"relations": {("even", 1): [(0,), (1,)]}}, {"compounds": {("s", 2): {row: 0 for row in itertools.product(range(2), repeat=2)}}},
        ):
            self.assertIs(model_with(**change).shows(EVEN, ODD), False, change)
        for change in ({"other": 1}, {"beyond": 0}, {"constants": {0: 0, 7: 1}}, {"constants": {}}):
            self.assertIs(model_with(**change).shows(EVEN, ODD), True, change)

    def test_equal_and_unlike_goals(self):
        model = Model(2, {"a": 1}, 0, {}, 0, {("p", 1): [(1,)]})
        self.assertIs(model.holds(Program([Rule(("p", (X,)), [("equal", (X, "a"))])])), True)
        self.assertIs(model.holds(Program([Rule(("p", (X,)), [("unlike", (X, "b"))])])), False)
        self.assertIs(model.bars(Question([], [("equal", ("a", "b"))])), True)
        self.assertIs(model.bars(Question([], [("equal", ("b", "c"))])), False)
        self.assertIs(model.bars(Question([], [("unlike", ("a", "a"))])), False)
        self.assertIs(model.bars(Question([X], [])), False)

    def test_unknowns_of_heads_alone(self):
        program = Program([Rule(("p", (X,)), [])])
        self.assertIs(Model(2, {}, 0, {}, 0, {("p", 1): [(0,)]}).holds(program), False)
        self.assertIs(Model(2, {}, 0, {}, 0, {("p", 1): [(0,), (1,)]}).holds(program), True)

    def test_relations_without_terms(self):
        program = Program([Rule(("p", ()), []), Rule(("q", ()), [("p", ()), ("r", ())])])
        model = Model(1, {}, 0, {}, 0, {("p", 0): [()]})
        self.assertIs(model.shows(program, Question([], [("q", ())])), True)
        self.assertIs(model.bars(Question([], [("p", ())])), False)

    def test_random(self):
        source = random.Random(631)
        kinds = {True: 0, False: 0}
        for _ in range(400):
            model, program, question = random_model(source), random_program(source), random_question(source)
            self.assertIs(model.holds(program), slow_holds(model, program))
            self.assertIs(model.bars(question), slow_bars(model, question))
            least = least_rows(model, program)
            self.assertEqual(least, slow_least(model, program))
            shows = least.shows(program, question)
            self.assertIs(shows, slow_bars(least, question))
            kinds[shows] += 1
            if shows:
                self.assertEqual(answered(program, question, 4), [])
        self.assertGreater(min(kinds.values()), 20)


class BadModelTest(unittest.TestCase):
    def bad(self, part, **parts):
        with self.assertRaises(BadModel, msg=parts) as caught:
            model_with(**parts)
        self.assertEqual(caught.exception.part, part, parts)

    def test_each_part(self):
        for many in (0, 17, -1, True, None, "2", (2,)):
            self.bad("many", many=many)
        for constants in (None, [], ("a",), {"A": 0}, {("f", (0,)): 0}, {("?", "x"): 0}, {None: 0}, {True: 0}, {"a": 2}, {"a": -1}, {"a": True}, {"a": None}):
            self.bad("constants", constants=constants)
        for state in (2, -1, None, False, True, "0", (0,)):
            self.bad("other", other=state)
            self.bad("beyond", beyond=state)
        full = {(0,): 1, (1,): 0}
        for compounds in (
            None, [], {"s": full}, {("s",): full}, {("s", 0): {(): 0}}, {("s", True): full}, {("S", 1): full}, {(None, 1): full}, {("s", 1): None},
            {("s", 1): {(0,): 1}}, {("s", 1): {}}, {("s", 1): {**full, (2,): 0}}, {("s", 1): {(0,): 1, (1, 0): 0}}, {("s", 1): {0: 1, 1: 0}},
            {("s", 2): full}, {("s", 1): {(0,): 1, (1,): 2}}, {("s", 1): {(0,): 1, (1,): True}}, {("s", 1): {(False,): 1, (1,): 0}}, {("s", 1, 1): full},
            {("s", 1): [((0,), 1)]}, {("s", 10 ** 9): full}, {("s", 10 ** 9): {}},
        ):
            self.bad("compounds", compounds=compounds)
        for relations in (
            None, [], {"p": []}, {("p",): []}, {("p", -1): []}, {("p", True): []}, {("P", 1): []}, {("equal", 2): [(0, 0)]}, {("unlike", 2): []},
            {("p", 1): None}, {("p", 1): [0]}, {("p", 1): [(0, 0)]}, {("p", 1): [()]}, {("p", 1): [(2,)]}, {("p", 1): [(True,)]}, {("p", 1): [(None,)]},
            {("p", 1): {(0,): True}}, {("p", 0): [(0,)]}, {("p", 1, 0): []},
        ):
            self.bad("relations", relations=relations)

    def test_the_first_one_first(self):
        wrong = {"many": 0, "constants": {None: 0}, "other": 9, "beyond": 9, "compounds": None, "relations": None}
        self.bad("many", **wrong)
        for part, right in (("many", 2), ("constants", {0: 9}), ("other", 0), ("beyond", 0)):
            wrong[part] = right
            self.bad({"many": "constants", "constants": "other", "other": "beyond", "beyond": "constants"}[part], **wrong)
        wrong["constants"] = {}
        self.bad("compounds", **wrong)
        wrong["compounds"] = {}
        self.bad("relations", **wrong)

    def test_1_and_16_states(self):
        self.assertEqual(Model(1, {}, 0, {}, 0, {}).state("a", {}), 0)
        table = {(state,): (state + 1) % 16 for state in range(16)}
        model = Model(16, {0: 15}, 3, {("s", 1): table}, 15, {("p", 1): [(state,) for state in range(16)]})
        self.assertEqual(model.state(wrapped(17, 0), {}), 0)
        self.assertEqual(len(model.relations["p", 1]), 16)
        pairs = {row: 0 for row in itertools.product(range(16), repeat=3)}
        self.assertEqual(model_with(many=16, compounds={("f", 3): pairs}).state(("f", (0, 1, 2)), {}), 0)

    def test_shows_of_spoilt_models(self):
        for name in NAMES:
            for wrong in (None, True, -1, 99, "a", (), (0,), Spent(0)):
                model = Model(*PARTS)
                setattr(model, name, wrong)
                self.assertIs(model.shows(EVEN, ODD), False)


class ManyWaysTest(unittest.TestCase):
    def large(self, number, call, *arguments):
        with self.assertRaises(TooLarge) as caught:
            call(*arguments)
        self.assertEqual(caught.exception.number, number)

    def test_ways(self):
        unknowns = [("?", at) for at in range(6)]
        goals = [("p", (one,)) for one in unknowns]
        model = Model(8, {}, 0, {}, 0, {("p", 1): [(0,)], ("q", 1): [(0,)]})
        for many in (5, 6):
            program = Program([Rule(("q", (unknowns[0],)), goals[:many])])
            question = Question([], goals[:many] + [("r", ())][: 6 - many])
            if many == 5:
                self.assertIs(model.holds(program), True)
                self.assertIs(model.bars(question), True)
                self.assertIs(model.shows(program, question), True)
                self.assertEqual(least_rows(model, program).relations, {})
            else:
                self.large(8 ** 6, model.holds, program)
                self.large(8 ** 6, model.bars, question)
                self.large(8 ** 6, least_rows, model, program)
                self.large(8 ** 6, model.shows, program, Question([], []))
                self.large(8 ** 6, model.shows, Program([]), question)

    def test_200000_ways(self):
        unknowns = [("?", at) for at in range(17)]
        model = Model(2, {}, 0, {}, 0, {})
        row = ("f", tuple(unknowns))
        self.assertIs(model.bars(Question([], [("p", (row,))])), True)
        self.large(2 ** 18, model.bars, Question([], [("p", (row,)), ("p", (X,))]))
        self.assertIs(Model(1, {}, 0, {}, 0, {}).bars(Question([], [("p", (("f", tuple(("?", at) for at in range(900))),))])), True)

    def test_rule_by_rule(self):
        unknowns = tuple(("?", at) for at in range(6))
        many = Rule(("p", unknowns), [])
        wrong, right = Rule(("q", (0,)), []), Rule(("r", (0,)), [("q", (0,))])
        model = Model(8, {}, 0, {}, 0, {})
        self.assertIs(model.holds(Program([right, wrong, many])), False)
        self.assertIs(model.shows(Program([wrong, many]), Question([], [many.head])), False)
        self.large(8 ** 6, model.holds, Program([right, many, wrong]))
        self.large(8 ** 6, least_rows, model, Program([wrong, many]))
        # Unknowns of all goals count, those of unlike goals, too.
        self.large(8 ** 6, model.bars, Question([], [("unlike", (("f", unknowns), 1))]))


class RowsTest(unittest.TestCase):
    def test_least_rows(self):
        bare = model_with(relations={})
        self.assertEqual(least_rows(bare, EVEN), Model(*PARTS))
        full = model_with(relations={("even", 1): [(0,), (1,)], ("p", 2): [(0, 0)]})
        self.assertEqual(least_rows(full, EVEN), Model(*PARTS))
        self.assertEqual(least_rows(full, Program([])), bare)

    def test_again_and_again(self):
        table = {(state,): min(state + 1, 15) for state in range(16)}
        model = Model(16, {0: 0}, 15, {("s", 1): table}, 15, {})
        step = Program([Rule(("p", (0, 0)), []), Rule(("p", (wrapped(1, X), Y)), [("p", (X, Y))]), Rule(("p", (X, wrapped(1, Y))), [("p", (X, Y))])])
        self.assertEqual(len(least_rows(model, step).relations["p", 2]), 256)
        joined = least_rows(Model(3, {"none": 0, "a": 1}, 2, {("row", 2): {row: 0 if row == (1, 0) else 2 for row in itertools.product(range(3), repeat=2)}}, 2, {}), JOINED)
        self.assertIs(joined.shows(JOINED, Question([X], [("joined", (X, "none", ("row", ("b", "none"))))])), True)
        self.assertIs(joined.shows(JOINED, Question([X], [("joined", (X, "none", ("row", ("a", "none"))))])), False)
        self.assertEqual(joined, slow_least(joined, JOINED))

    def test_with_rows(self):
        model = Model(*PARTS)
        more = {("even", 1): [[1], (0,)], ("odd", 1): [[1]], ("p", 0): [()], ("none", 1): []}
        self.assertEqual(with_rows(model, more).relations, {("even", 1): ((0,), (1,)), ("odd", 1): ((1,),), ("p", 0): ((),)})
        self.assertEqual(with_rows(model, {}), model)
        self.assertEqual(model, Model(*PARTS))
        self.assertEqual(more[("even", 1)], [[1], (0,)])
        for relations in (None, [], {"even": []}, {("even", 1): [(2,)]}, {("even", 1): [0]}, {("equal", 2): []}):
            with self.assertRaises(BadModel) as caught:
                with_rows(model, relations)
            self.assertEqual(caught.exception.part, "relations")


if __name__ == "__main__":
    unittest.main()
