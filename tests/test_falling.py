"""[18]: falling terms, and the rules that a question can come to."""

import itertools
import random
import unittest

from proofsizes.errors import BadRule, TooLarge
from proofsizes.falling import falling_places, first_standing, for_question, is_falling, levels_for, reached_rules
from proofsizes.programs import Program, Question, Rule
from proofsizes.searching import answered, judge_spent, opened
from tests.samples import COUNTS, JOINED, SPLIT, X, Y, Z, random_program, random_question, row_of, wrapped
from tests.test_searching import FOUND, SUMS, TREES, WALKS

# The first goal falls in both places, the second one in the second place alone.
MIXED = Program(
    [
        Rule(("p", (("f", (X, Y)), ("g", (Z,)))), [("unlike", (X, 1)), ("p", (X, Z)), ("p", (("f", (X, Y)), Z))]),
        Rule(("p", (X, Y)), []),
    ]
)


def naive_standing(program, places):
    """The first goal that doesn't fall, by the words of the document."""
    for number, rule in enumerate(program.rules):
        for at, (name, terms) in enumerate(rule.goals):
            if name in ("equal", "unlike"):
                continue
            above, below = (rule.head[0], len(rule.head[1])), (name, len(terms))
            if above not in places or below not in places:
                return number, at
            outer, inner = rule.head[1][places[above]], terms[places[below]]
            if outer == inner or not stands_within(inner, outer):
                return number, at
    return None


def stands_within(inner, outer):
    if inner == outer:
        return True
    if not isinstance(outer, tuple) or outer[0] == "?":
        return False
    return any(stands_within(inner, part) for part in outer[1])


def falling_program(source):
    """A program that may well be falling."""
    parts = [X, Y, "a", wrapped(1, X), ("f", (X, Y)), ("f", ("a", Y)), wrapped(2, X)]
    rules = []
    for _ in range(source.randrange(1, 4)):
        heads = {"p": 2, "q": 1, "r": 0}
        name = source.choice("ppqqr")
        goals = []
        for _ in range(source.randrange(0, 3)):
            other = source.choice("pq" * 5 + "r")
            goals.append((other, tuple(source.choice([X, Y, "a", wrapped(1, X)]) for _ in range(heads[other]))))
        rules.append(Rule((name, tuple(source.choice(parts) for _ in range(heads[name]))), goals))
    return Program(rules)


class PlacesTest(unittest.TestCase):
    def test_falling_by_some_places(self):
        self.assertIs(is_falling(JOINED, {("joined", 3): 0}), True)
        self.assertIs(is_falling(JOINED, {("joined", 3): 2}), True)
        self.assertIs(is_falling(JOINED, {("joined", 3): 1}), False)
        self.assertIsNone(first_standing(JOINED, {("joined", 3): 0}))
        self.assertEqual(first_standing(JOINED, {("joined", 3): 1}), (1, 0))
        self.assertEqual(first_standing(JOINED, {}), (1, 0))
        self.assertIs(is_falling(JOINED, {}), False)

    def test_the_first_that_stands(self):
        self.assertEqual(first_standing(MIXED, {("p", 2): 0}), (0, 2))
        self.assertIsNone(first_standing(MIXED, {("p", 2): 1}))
        self.assertEqual(first_standing(MIXED, {}), (0, 1))
        self.assertEqual(first_standing(WALKS, {("walk", 2): 0, ("step", 2): 0}), (0, 0))

    def test_within_and_not_all_of_it(self):
        for head, goal, is_right in (
            (("f", (X,)), X, True),
            (("f", (X,)), ("f", (X,)), False),
            (X, X, False),
            ("a", "a", False),
            (("f", ("a",)), "a", True),
            (("f", (("g", (X, 1)),)), ("g", (X, 1)), True),
            (("f", (X,)), Y, False),
            (("f", (X,)), "a", False),
            (("f", (("f", (X,)),)), ("f", (X,)), True),
        ):
            program = Program([Rule(("p", (head,)), [("p", (goal,))])])
            self.assertIs(is_falling(program, {("p", 1): 0}), is_right, (head, goal))
            self.assertEqual(falling_places(program), {("p", 1): 0} if is_right else None)

    def test_places_of_unlike_relations(self):
        program = Program(
            [
                Rule(("even", (0,)), []),
                Rule(("even", (wrapped(1, X),)), [("odd", (Y, X)), ("unlike", (X, Y))]),
                Rule(("odd", (Y, wrapped(1, X))), [("even", (X,))]),
                Rule(("even", (X, X)), []),
            ]
        )
        places = {("even", 1): 0, ("even", 2): 0, ("odd", 2): 1}
        self.assertEqual(falling_places(program), places)
        self.assertEqual(list(falling_places(program)), [("even", 1), ("even", 2), ("odd", 2)])
        self.assertEqual(first_standing(program, {("even", 1): 0, ("odd", 2): 0}), (1, 0))
        self.assertEqual(first_standing(program, {("even", 1): 0}), (1, 0))
        self.assertEqual(first_standing(program, {("odd", 2): 1}), (1, 0))
        self.assertIsNone(first_standing(program, {("even", 1): 0, ("odd", 2): 1}))

    def test_the_first_dict(self):
        self.assertEqual(falling_places(JOINED), {("joined", 3): 0})
        self.assertEqual(falling_places(MIXED), {("p", 2): 1})
        self.assertEqual(falling_places(SUMS), {("count", 1): 0, ("sum", 3): 0})
        self.assertEqual(falling_places(FOUND), {("in", 2): 1})
        self.assertEqual(falling_places(TREES), {("tree", 1): 0})
        self.assertIsNone(falling_places(WALKS))
        self.assertEqual(falling_places(Program([])), {})
        two = Program([Rule(("b", (X, Y)), []), Rule(("a", (("f", (X,)), ("f", (Y,)))), [("a", (X, Y))])])
        self.assertEqual(falling_places(two), {("a", 2): 0, ("b", 2): 0})

    def test_relations_without_terms(self):
        program = Program([Rule(("p", ()), []), Rule(("q", (X,)), [("equal", (X, 1))])])
        self.assertEqual(falling_places(program), {("q", 1): 0})
        self.assertIs(is_falling(program, {}), True)
        asked = Program([Rule(("p", ()), []), Rule(("q", (wrapped(1, X),)), [("p", ())])])
        self.assertIsNone(falling_places(asked))
        self.assertEqual(first_standing(asked, {("q", 1): 0}), (1, 0))
        self.assertIsNone(falling_places(Program([Rule(("p", ()), [("q", (X,))])])))

    def test_random(self):
        source = random.Random(81)
        kinds = {True: 0, False: 0}
        for _ in range(400):
            program = falling_program(source)
            relations = set()
            for rule in program.rules:
                for name, terms in (rule.head,) + rule.goals:
                    relations.add((name, len(terms)))
            wanted = sorted(one for one in relations if one[1])
            first = None
            for row in itertools.product(*[range(one[1]) for one in wanted]):
                places = dict(zip(wanted, row))
                self.assertEqual(first_standing(program, places), naive_standing(program, places))
                if first is None and naive_standing(program, places) is None:
                    first = places
            self.assertEqual(falling_places(program), first)
            kinds[first is None] += 1
        self.assertGreater(min(kinds.values()), 50)

    def test_too_many_dicts(self):
        wide = [Rule((name, tuple(range(4))), []) for name in "abcdef"]
        places = falling_places(Program(wide))
        self.assertEqual(places, {(name, 4): 0 for name in "abcdef"})
        last = [Rule(("f", (1, 2, 3, wrapped(1, X))), [("f", (1, X, 3, X))])]
        self.assertEqual(falling_places(Program(wide + last))[("f", 4)], 3)
        last = [Rule(("f", (1, 2, 3, wrapped(1, X))), [("f", (4, X, 3, 4))])]
        self.assertIsNone(falling_places(Program(wide + last)))
        for more, number in (([Rule(("g", (1, 2)), [])], 8192), ([Rule(("g", (1,)), [("h", (X,) * 5)])], 20480),
                             ([Rule(("g", ()), [("g", ()), ("h", (X,) * 3)])], 12288)):
            with self.assertRaises(TooLarge) as caught:
                falling_places(Program(wide + more))
            self.assertEqual(caught.exception.number, number)
        many = Program([Rule((name, (X,) * 6), [(name + str(n), (X,) * 6) for n in range(6)]) for name in "abcdefghijklmnop"])
        with self.assertRaises(TooLarge) as caught:
            falling_places(many)
        self.assertEqual(caught.exception.number, 6 ** 112)

    def test_wrong_places(self):
        calls = [lambda places: is_falling(JOINED, places), lambda places: first_standing(JOINED, places),
                 lambda places: levels_for(JOINED, places, SPLIT)]
        wrong = [None, 3, [], (), [("joined", 3)], {("joined", 3): 3}, {("joined", 3): -1}, {("joined", 3): None},
                 {("joined", 3): True}, {("joined", 3): "0"}, {("joined", 2): 0}, {("other", 3): 0}, {"joined": 0},
                 {3: 0}, {("joined",): 0}, {("joined", 3, 0): 0}, {("equal", 2): 0}, {None: None},
                 {("joined", 3): 0, ("more", 1): 0}]
        for places in wrong:
            for call in calls:
                with self.assertRaises(BadRule, msg=places) as caught:
                    call(places)
                self.assertEqual((caught.exception.number, caught.exception.part), (None, "places"))
        with self.assertRaises(BadRule):
            is_falling(Program([Rule(("p", (X,)), [])]), {("p", True): 0})
        with self.assertRaises(BadRule):
            is_falling(Program([Rule(("p", ()), [])]), {("p", 0): 0})


class LevelsTest(unittest.TestCase):
    def check(self, program, places, goals, levels):
        question = Question([], goals)
        self.assertEqual(levels_for(program, places, question), levels)
        if levels is not None:
            self.assertFalse(opened(program, question, levels))

    def test_ground_terms_at_the_places(self):
        places = {("joined", 3): 0}
        self.check(JOINED, places, [("joined", ("none", X, Y))], 1)
        self.check(JOINED, places, [("joined", (row_of(["a", "a"]), X, Y))], 3)
        self.check(JOINED, places, [("joined", (X, "none", row_of(["a", "a"])))], None)
        self.check(JOINED, {("joined", 3): 2}, [("joined", (X, "none", row_of(["a", "a"])))], 3)
        self.check(JOINED, places, [("joined", (row_of(["a"]), X, Y)), ("joined", (row_of(["a"] * 4), X, Z))], 5)
        self.check(JOINED, places, [("joined", (row_of(["a"]), X, Y)), ("joined", (Y, X, Z))], None)
        self.check(COUNTS, {("count", 1): 0}, [("count", (wrapped(5, 0),))], 6)

    def test_just_so_many_levels(self):
        for many in range(1, 19):
            question = Question([], [("count", (wrapped(many - 1, 0),))])
            self.assertEqual(levels_for(COUNTS, {("count", 1): 0}, question), many)
            self.assertEqual(judge_spent(COUNTS, question, 30).levels, many)

    def test_without_relation_goals(self):
        self.check(JOINED, {("joined", 3): 0}, [], 0)
        self.check(JOINED, {("joined", 3): 0}, [("equal", (X, 1)), ("unlike", (X, wrapped(4, Y)))], 0)

    def test_none(self):
        self.check(JOINED, {("joined", 3): 1}, [], None)
        self.check(JOINED, {}, [("joined", ("none", "none", "none"))], None)
        self.check(JOINED, {("joined", 3): 0}, [("other", ("a",))], None)
        self.check(Program([]), {}, [("other", ("a",))], None)
        self.check(Program([]), {}, [], 0)
        self.check(Program([Rule(("p", ()), [])]), {}, [("p", ())], None)

    def test_random(self):
        source = random.Random(83)
        some = 0
        for _ in range(1500):
            program = falling_program(source)
            places = falling_places(program)
            ground = [source.choice([wrapped(3, "a"), ("f", ("a", wrapped(2, "a")))]) for _ in range(2)]
            question = Question([X], [("p", tuple(ground))] if source.random() < 0.5 else [("q", (ground[0],))])
            if places is not None:
                levels = levels_for(program, places, question)
                if levels is not None:
                    self.assertFalse(opened(program, question, levels))
                    some += judge_spent(program, question, 9).levels > 1
        self.assertGreater(some, 10)


class ReachedTest(unittest.TestCase):
    def test_rules_that_are_reached(self):
        rules = [Rule(("p", (X,)), [("q", (X,)), ("equal", (X, 1))]), Rule(("r", (X,)), []), Rule(("q", (X,)), [("s", ())]),
                 Rule(("q", (X, X)), [("r", (X,))]), Rule(("s", ()), [("p", (X,))]), Rule(("p", (1,)), [])]
        program = Program(rules)
        for goals, numbers in (
            ([("p", (X,))], (0, 2, 4, 5)),
            ([("s", ())], (0, 2, 4, 5)),
            ([("r", (X,))], (1,)),
            ([("q", (X, Y))], (1, 3)),
            ([("r", (1,)), ("q", (1,))], (0, 1, 2, 4, 5)),
            ([("other", ())], ()),
            ([("equal", (X, 1))], ()),
            ([], ()),
        ):
            question = Question([X], goals)
            self.assertEqual(reached_rules(program, question), numbers)
            self.assertEqual(for_question(program, question), Program([rules[number] for number in numbers]))

    def test_all_answers_stay(self):
        source = random.Random(85)
        fewer = 0
        for _ in range(80):
            program, question = random_program(source), random_question(source)
            for rule in random_program(source).rules[:2]:
                goals = [("x" + goal[0] if goal[0] in "pq" else goal[0], goal[1]) for goal in rule.goals]
                program = Program((Rule(("x" + rule.head[0], rule.head[1]), goals),) + program.rules)
            less = for_question(program, question)
            numbers = reached_rules(program, question)
            fewer += len(numbers) < len(program.rules)
            ours = [(one.answer, one.size) for one in answered(program, question, 4)]
            self.assertEqual([(one.answer, one.size) for one in answered(less, question, 4)], ours)
        self.assertEqual(fewer, 80)

    def test_arguments_are_not_changed(self):
        places = {("joined", 3): 0}
        is_falling(JOINED, places)
        levels_for(JOINED, places, SPLIT)
        self.assertEqual(places, {("joined", 3): 0})
        self.assertIsNot(falling_places(JOINED), falling_places(JOINED))


if __name__ == "__main__":
    unittest.main()
