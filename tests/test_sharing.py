"""[2], [10], [20], [36], [40]: papers with deep proofs, and with proofs and terms whose parts are shared."""

import itertools
import random
import unittest
from unittest import mock

from proofsizes import following
from proofsizes.answers import Answer
from proofsizes.completing import Complete
from proofsizes.composing import composed_answer
from proofsizes.errors import BadQuestion
from proofsizes.flat import least_proof, least_sizes
from proofsizes.programs import Program, Question, Rule
from proofsizes.proofs import answer_of, proofs_levels, proofs_size
from proofsizes.searching import Answered, Spent
from proofsizes.sharing import are_same, are_same_dicts, are_same_rows, has_truth_value, hide_truth_value, unlike_parts
from proofsizes.solving import solve
from proofsizes.stores import NoValues, Valued, judge_values
from proofsizes.streams import Came, from_left, in_turns
from proofsizes.terms import has_unknown, is_deep_term, is_ground_term, is_term, names_in, unlike_unknowns_in
from proofsizes.texts import read_program, read_question
from proofsizes.uniform import Apart, Follows, judge_follows
from tests.samples import OWN, X, Y, random_program, random_question
from tests.shared import parted, shared, spoilt

UNKNOWNS = [("?", sign) for sign in "abcdef"]
CHAIN = read_program("p(a). p(?x) if p(?x).")
ASKED = read_question("ask ?x if p(?x).")


def counter(places, last, times):
    """A program that counts up, place by place, from 0 to a last figure, each number asked so many times; its last number."""
    rules = [Rule(("s", (one, one + 1)), []) for one in range(last)] + [Rule(("c", (0,) * places), [])]
    for at in range(places):
        ahead = tuple(UNKNOWNS[:places - 1 - at])
        less, more = ahead + (X,) + (last,) * at, ahead + (Y,) + (0,) * at
        rules.append(Rule(("c", more), [("c", less)] * times + [("s", (X, Y))]))
    return Program(rules), Rule(("c", (last,) * places), [])


def doubled(places):
    """The same in twos, where each number asks the one ahead twice, and nothing else."""
    rules = [Rule(("c", (0,) * places), [])]
    for at in range(places):
        ahead = tuple(UNKNOWNS[:places - 1 - at])
        rules.append(Rule(("c", ahead + (1,) + (0,) * at), [("c", ahead + (0,) + (1,) * at)] * 2))
    return Program(rules), Rule(("c", (1,) * places), [])


def changed(tree, path, other):
    """A tree with another one in place of that behind a path; all else is shared with it."""
    steps = []
    for at in path:
        steps.append((tree[0], tree[1][:at], tree[1][at + 1 :]))
        tree = tree[1][at]
    for number, ahead, behind in reversed(steps):
        other = (number, ahead + (other,) + behind)
    return other


def depth(tree):
    many = 0
    while tree[1]:
        tree, many = tree[1][0], many + 1
    return many


def chained(many, end):
    tree = (end, ())
    for _ in range(many):
        tree = (1, (tree,))
    return tree


class DeepTest(unittest.TestCase):
    """More rules within one another than Python itself compares."""

    def test_follows(self):
        program, rule = counter(5, 3, 1)
        one, other = judge_follows(program, rule), judge_follows(program, rule)
        self.assertEqual(depth(one.proof), 1023)
        self.assertIs(one.shows(program, rule), True)
        self.assertIs(one == other, True)
        for path in ([0] * 1023, [0] * 600, [0]):
            wrong = Follows(changed(one.proof, path, (2, ())))
            self.assertIs(one == wrong, False)
            self.assertIs(wrong.shows(program, rule), False)
        self.assertIs(one == Apart(()), False)

    def test_came(self):
        for call in (from_left, in_turns):
            one, other = call(CHAIN, ASKED, 700), call(CHAIN, ASKED, 700)
            self.assertEqual(len(one.proofs), 700)
            self.assertIs(one == other, True)
            for proofs in (one.proofs[:-1], one.proofs[:-1] + ((chained(699, 1),),), one.proofs + (one.proofs[-1],), one.proofs[::-1], None, 7, (), (None,) * 700):
                self.assertIs(one == Came(proofs, 700, False), False)
            self.assertIs(one == Came(list(one.proofs), 700, False), True)
            self.assertIs(one == Came(one.proofs, 701, False), False)
            self.assertIs(one == Came(one.proofs, 700, True), False)
            self.assertIs(one == one.proofs, False)

    def test_answered(self):
        answer = Answer(["a"], [])
        one = Answered(answer, 701, (chained(700, 0),))
        self.assertIs(one.shows(CHAIN, ASKED), True)
        self.assertIs(one == Answered(answer, 701, [chained(700, 0)]), True)
        for other in (Answered(answer, 701, (chained(700, 1),)), Answered(answer, 701, (chained(699, 0),)), Answered(answer, 702, one.proofs), Answered(Answer(["b"], []), 701, one.proofs),
                      Answered(answer, 701, one.proofs * 2), Answered(answer, 701, None), Answered(None, 701, one.proofs), Spent(0), None):
            self.assertIs(one == other, False)
        # Two trees side by side, which are the same, but not one.
        both = Answered(answer, 1402, (chained(700, 0), chained(700, 0)))
        self.assertIs(both == Answered(answer, 1402, (chained(700, 0),) * 2), True)
        self.assertIs(both == Answered(answer, 1402, (chained(700, 0), chained(700, 1))), False)
        self.assertIs(both.shows(CHAIN, read_question("ask ?x if p(?x), p(?x).")), True)

    def test_complete(self):
        answer = Answer(["a"], [])
        one, other = [Complete(701, [Answered(answer, 701, (chained(700, 0),))]) for _ in range(2)]
        self.assertIs(one == other, True)
        self.assertIs(one == Complete(701, [Answered(answer, 701, (chained(700, 1),))]), False)


class SharedTest(unittest.TestCase):
    """Proofs in which few parts are unlike."""

    def test_doubled(self):
        program, rule = doubled(6)
        paper = judge_follows(program, rule)
        self.assertEqual(depth(paper.proof), 63)
        self.assertIs(paper.shows(program, rule), True)
        self.assertIs(paper == judge_follows(program, rule), True)
        self.assertIs(paper.shows(program, Rule(("c", (1, 1, 1, 1, 1, 0)), [])), False)

    def test_another_part(self):
        program, rule = doubled(6)
        proof = judge_follows(program, rule).proof
        source = random.Random(941)
        for path in ([0] * 63, [1] * 63, [0, 1] * 31 + [0], [1, 0] * 31 + [1], [source.randrange(2) for _ in range(63)], [0]):
            for other in ((1, ()), source.choice([None, (), 0, (7, ()), (0, ((0, ()),)), proof, Spent(0)])):
                # No text tells which one failed: it would be as long as the proof.
                self.assertFalse(bool(Follows(changed(proof, path, other)).shows(program, rule)))
        for path in ([0] * 63, [1] * 63, [0, 1] * 31 + [0], [1, 0] * 31 + [1]):
            self.assertIs(Follows(changed(proof, path, (0, ()))).shows(program, rule), True)
            self.assertIs(Follows(changed(proof, path, (False, ()))).shows(program, rule), False)
        self.assertIs(Follows(proof) == Follows(changed(proof, [1] * 63, (1, ()))), False)
        self.assertIs(Follows(changed(proof, [0, 1] * 20, None)) == Follows(proof), False)

    def test_the_same_part_again(self):
        program, rule = doubled(6)
        proof = judge_follows(program, rule).proof
        again = changed(proof, [1, 0, 1], proof[1][0][1][0][1][0])
        self.assertIs(Follows(again).shows(program, rule), True)
        self.assertIs(Follows(again) == Follows(proof), True)
        # The lower part is made anew, apart from that which the others share.
        small = doubled(4)
        low = judge_follows(*small).proof
        made = judge_follows(*small).proof
        self.assertIs(Follows(changed(low, [0, 1], made[1][0][1][1])) == Follows(made), True)
        self.assertIs(Follows(changed(low, [0, 1], made[1][0][1][1])).shows(*small), True)

    def test_deep_and_shared(self):
        program, rule = counter(4, 4, 2)
        paper = judge_follows(program, rule)
        last = depth(paper.proof)
        self.assertEqual(last, 624)
        self.assertIs(paper.shows(program, rule), True)
        self.assertIs(paper == judge_follows(program, rule), True)
        for path in ([0] * last, [1] * last, [0, 1] * 300):
            self.assertIs(Follows(changed(paper.proof, path, (8, ()))).shows(program, rule), False)

    def test_parts_shared_farther_away(self):
        # Each number asks the one ahead, and the one ahead of that.
        rules = [Rule(("f", (0,)), []), Rule(("f", (1,)), [])] + [Rule(("s", (at, at + 1)), []) for at in range(6)]
        step = Rule(("f", (X,)), [("f", (Y,)), ("s", (Y, X)), ("s", (("?", "z"), Y)), ("f", (("?", "z"),))])
        program = Program(rules + [step])
        paper = judge_follows(program, Rule(("f", (6,)), []))
        self.assertIs(paper.shows(program, Rule(("f", (6,)), [])), True)
        tree = (0, ())
        ahead = tree
        for _ in range(90):
            tree, ahead = (1, (tree, ahead)), tree
        fall = Program([Rule(("g", ()), []), Rule(("g", ()), [("g", ()), ("g", ())])])
        self.assertIs(Follows(tree).shows(fall, Rule(("g", ()), [])), True)
        self.assertIs(Follows(changed(tree, [1, 0, 0, 1], (1, ()))).shows(fall, Rule(("g", ()), [])), False)
        self.assertIs(Follows(tree) == Follows(changed(tree, [0, 1, 1, 0], (1, ()))), False)

    def test_relations_and_goals(self):
        program = Program([Rule(("p", ("a",)), []), Rule(("q", ("a",)), []), Rule(("r", (X,)), [("p", (X,)), ("q", (X,))])])
        rule = Rule(("r", ("a",)), [])
        self.assertIs(Follows((2, ((0, ()), (1, ())))).shows(program, rule), True)
        for proof in ((2, ((1, ()), (0, ()))), (2, ((0, ()),)), (2, ((0, ()), (1, ()), (0, ()))), (2, ((0, ()), (0, ()))), (2, ((0, ()), (1, ((0, ()),)))), (2, ((0, ()), 1)), (2, 0), ((2,), ()), (2, ((0, ()), (1, ())), 0)):
            self.assertIs(Follows(proof).shows(program, rule), False, proof)

    def test_least_proofs(self):
        program, rule = doubled(6)
        self.assertEqual(least_sizes(program)[rule.head], 2 ** 64 - 1)
        proofs = (least_proof(program, rule.head),)
        self.assertIs(Follows(proofs[0]) == judge_follows(program, rule), True)
        self.assertEqual((proofs_size(proofs), proofs_levels(proofs)), (2 ** 64 - 1, 64))
        unknowns = [("?", at) for at in range(6)]
        question = Question(unknowns, [("c", unknowns)])
        self.assertEqual(answer_of(program, question, proofs), Answer([1] * 6, []))
        self.assertIs(Answered(Answer([1] * 6, []), 2 ** 64 - 1, proofs).shows(program, question), True)
        self.assertIs(Answered(Answer([1] * 6, []), 2 ** 64, proofs).shows(program, question), False)
        self.assertIs(Answered(Answer([0] * 6, []), 2 ** 64 - 1, proofs).shows(program, question), False)
        self.assertIsNone(answer_of(program, Question([], [("c", [0] * 6)]), proofs))
        for wrong in ((changed(proofs[0], [0] * 63, (1, ())),), (changed(proofs[0], [1] * 63, None),), proofs * 2, proofs[0]):
            self.assertIs(Answered(Answer([1] * 6, []), 2 ** 64 - 1, wrong).shows(program, question), False)
            with self.assertRaises(BadQuestion):
                answer_of(program, question, wrong)


class ComposedTest(unittest.TestCase):
    """Answers by those of the trees within."""

    def test_random(self):
        source = random.Random(991)
        kinds = {True: 0, False: 0}
        for _ in range(300):
            program, question = random_program(source), random_question(source)
            for proofs in some_proofs(source, program, question):
                answer = answer_of(program, question, proofs)
                self.assertEqual(composed_answer(program, question, proofs), answer)
                kinds[answer is None] += 1
        self.assertGreater(min(kinds.values()), 100)

    def test_long_proofs(self):
        steps = read_program("p(0). p(s(?x)) if p(?x). q(?x, ?y) if q(?y, ?x), ?x /= a. q(?x, b).")
        self.assertEqual(answer_of(steps, read_question("ask if p(?x)."), (chained(1100, 0),)), Answer([], []))
        question = read_question("ask ?x, ?y if q(?x, ?y).")
        for many, terms, unlike in ((1500, [X, "b"], [[(X, "a")]]), (1501, ["b", X], [[(X, "a")]])):
            tree = (3, ())
            for _ in range(many):
                tree = (2, (tree,))
            self.assertEqual(answer_of(steps, question, (tree,)), Answer(terms, unlike))
            self.assertEqual((proofs_size((tree,)), proofs_levels((tree,))), (many + 1, many + 1))


def some_proofs(source, program, question):
    """Some proofs of a question, whether they have an answer or not."""
    found = []
    for _ in range(4):
        trees = [random_tree(source, program, goal, 3) for goal in question.goals if goal[0] not in OWN]
        if None not in trees:
            found.append(tuple(trees))
    return found


def random_tree(source, program, goal, levels):
    numbers = [number for number, rule in enumerate(program.rules) if (rule.head[0], len(rule.head[1])) == (goal[0], len(goal[1]))]
    if not numbers or levels == 0:
        return None
    number = source.choice(numbers)
    trees = [random_tree(source, program, one, levels - 1) for one in program.rules[number].goals if one[0] not in OWN]
    return None if None in trees else (number, tuple(trees))


class TermsTest(unittest.TestCase):
    """Equations by which terms double again and again."""

    def equations(self, many):
        return [(("?", at + 1), ("f", (("?", at), ("?", at)))) for at in range(many)]

    def test_solved(self):
        equations = self.equations(24)
        paper = solve(equations)
        self.assertIs(paper.shows(equations), True)
        self.assertIs(paper == solve(equations), True)
        other = solve([(("?", 1), ("f", (("?", 0), "a")))] + equations[1:])
        self.assertIs(paper == other, False)
        self.assertIs(other.shows(equations), False)
        self.assertIs(bool(solve(equations + [(("?", 24), ("?", 0))])), False)

    def test_values(self):
        equations = self.equations(24)
        last = ("f", (("?", 23), ("?", 23)))
        paper = judge_values(equations, [[(("?", 24), ("g", (("?", 23),)))]])
        self.assertIs(paper.shows(equations, [[(("?", 24), ("g", (("?", 23),)))]]), True)
        self.assertIs(paper == judge_values(equations, [[(("?", 24), ("g", (("?", 23),)))]]), True)
        self.assertIs(Valued({**paper.ground, 0: "b"}).shows(equations, []), False)
        self.assertIs(Valued({**paper.ground, 0: "b"}) == paper, False)
        self.assertEqual(judge_values(equations, [[(("?", 24), "a")], [(("?", 24), last)]]), NoValues(1, None))
        self.assertIs(NoValues(1, None).shows(equations, [[(("?", 24), "a")], [(("?", 24), last)]]), True)
        self.assertIs(following.judge_follows(equations, [[(("?", 0), "a")]], [(("?", 24), last)]).shows(equations, [[(("?", 0), "a")]], [(("?", 24), last)]), True)

    def test_names(self):
        shared = X
        for _ in range(40):
            shared = ("f", (shared, "b", shared))
        self.assertEqual(names_in([("h", (Y, shared))]), ["y", "x"])
        source = random.Random(997)
        for _ in range(100):
            term = random_term(source, 4)
            self.assertEqual([one[1] for one in unlike_unknowns_in(term)], names_in([term]))


def random_term(source, levels):
    if levels == 0 or source.random() < 0.3:
        return source.choice(["a", 0, X, Y, ("?", 0)])
    return source.choice("fg"), tuple(random_term(source, levels - 1) for _ in range(source.randrange(1, 4)))


def random_nest(source, known):
    """A nest that shares parts of others mostly."""
    if source.random() < 0.3:
        return source.choice([0, 1, "a", "?", None, -1])
    row = tuple(source.choice(known) if known and source.random() < 0.8 else random_nest(source, known) for _ in range(source.choice([0, 1, 2, 2, 3])))
    known.append(row)
    return row


def copied(nest):
    return tuple(copied(part) for part in nest) if isinstance(nest, tuple) else nest


def parts_in(nest):
    return {(type(nest), nest)}.union(*[parts_in(part) for part in nest]) if isinstance(nest, tuple) else {(type(nest), nest)}


class NestTest(unittest.TestCase):
    def test_unlike_parts(self):
        source = random.Random(947)
        for _ in range(300):
            nests = [random_nest(source, []) for _ in range(source.randrange(1, 4))]
            nests += [copied(source.choice(nests))]
            expected = set().union(*[parts_in(nest) for nest in nests])
            for steps, few in ((0, 64), (0, 1), (3, 2), (10 ** 6, 1)):
                with mock.patch("proofsizes.sharing.FEW_PLACES", few):
                    parts, numbers = unlike_parts(nests, steps)
                self.assertEqual(len(parts), len(expected))
                built = []
                for inner, leaf in parts:
                    built.append(leaf if inner is None else tuple(built[part] for part in inner))
                self.assertEqual([built[number] for number in numbers], nests)
                self.assertEqual((parts, numbers), unlike_parts([copied(nest) for nest in nests], steps))

    def test_true_is_not_1(self):
        parts, numbers = unlike_parts([(True, 1), (1, True), (False, 0, None)], 0)
        self.assertEqual(numbers, [2, 3, 7])
        self.assertEqual([leaf for inner, leaf in parts if inner is None], [True, 1, False, 0, None])

    def test_true_is_found_where_it_is_taken_for_1(self):
        for worth, wrong in ((1, True), (0, False), (0, True), ("a", True)):
            for way in ("0110", "1001", "0" * 9 + "1"):
                for things in ([spoilt(12, worth, wrong, way)], [0, shared(12, worth), spoilt(12, worth, wrong, way)], [shared(60, worth), spoilt(11, worth, wrong, way), 7]):
                    self.assertIs(hide_truth_value(things, *unlike_parts(things, 20)), True)
            self.assertIs(has_truth_value(spoilt(12, worth, wrong, "0110")), True)
        for things in ([shared(60, 1)], [shared(15, 1), parted(12, 0)], [shared(15, "a")], [], [2, None, ()]):
            self.assertIs(hide_truth_value(things, *unlike_parts(things, 20)), False)
        self.assertIs(has_truth_value(parted(12, 1)), False)

    def test_copies_of_shared_parts(self):
        # Beside one another, near the top, and in things by themselves.
        for things, many in (([shared(60, "a"), shared(60, "a")], 122), ([("g", (shared(60, "a"), shared(60, "a")))], 125), ([("g", (shared(60, "a"), ("g", (shared(60, "a"), shared(60, "b")))))], 248), ([shared(at, "a") for at in range(40)], 80)):
            parts, numbers = unlike_parts(things, 100)
            self.assertEqual(len(parts), many)
            self.assertEqual(len(numbers), len(things))

    def test_rows_with_many_parts(self):
        for inner, many in ((lambda at: ("h", (0, at, 0)), 3 * 30000 + 4), (lambda at: ("h", (0,) * 9 + (("g", (0, at, 0)),) + (0,) * 9), 5 * 30000 + 5)):
            parts, _ = unlike_parts([("f", tuple(inner(at) for at in range(1, 30001)))], 20000)
            self.assertLessEqual(abs(len(parts) - many), 2)

    def test_what_is_no_nest(self):
        spent, other = Spent(0), Spent(1)
        parts, numbers = unlike_parts([(spent, [1]), (Spent(0), [1]), (other, [2]), {}], 0)
        self.assertEqual(numbers[0], numbers[1])
        self.assertNotEqual(numbers[0], numbers[2])
        self.assertEqual(parts[numbers[3]], (None, {}))

    def test_are_same(self):
        source = random.Random(953)
        nests = [random_nest(source, []) for _ in range(60)]
        for one, other in itertools.product(nests, repeat=2):
            self.assertIs(are_same([(one, copied(other))], 1000), one == other)
            self.assertIs(are_same_rows(one, copied(other), 1000), one == other)
        for one, other in ((None, None), (1, True), ("a", "b"), ((), []), ([], []), (Spent(0), Spent(0)), (Spent(0), (Spent(0),)), ((Spent(0),), (Spent(1),))):
            self.assertIs(are_same([(one, other)], 1000), one == other)
            self.assertIs(are_same_rows(one, other, 1000), one == other)
            self.assertIs(are_same_dicts({0: one}, {0: other}), one == other)
        for one, other in (({}, {}), ({0: 1}, {}), ({0: 1}, {1: 1}), ({0: 1}, None), (None, None), ({0: (1, 2)}, {0: (1, 2)}), ({0: 1, 1: 2}, {1: 2, 0: 1})):
            self.assertIs(are_same_dicts(one, other), one == other)

    def test_terms(self):
        shared, other = "a", X
        for _ in range(60):
            shared, other = ("f", (shared, shared)), ("f", (shared, other))
        self.assertIs(is_deep_term(shared), True)
        self.assertIs(is_ground_term(shared), True)
        self.assertIs(has_unknown(shared), False)
        self.assertIs(is_deep_term(other), True)
        self.assertIs(is_ground_term(other), False)
        self.assertIs(is_term(shared), False)
        for wrong in (None, "A", ("f", ()), ("f", [1]), ("?", -1), ("?", ("a",)), ("F", ("a",)), (("f",), ("a",)), ("f", ("a",), 0), True, ("f", (None, "a")), ("f", "a")):
            self.assertIs(is_deep_term(changed(other, [0] * 60, wrong)), False, wrong)
        wide = ("f", tuple(("g", (at, X)) for at in range(30000)))
        self.assertIs(is_term(wide), True)
        self.assertIs(has_unknown(wide), True)
        self.assertIs(is_term(("f", wide[1] + (None,))), False)
        low = "a"
        for _ in range(19):
            low = ("f", (low, low))
        self.assertIs(is_term(low), True)
        self.assertIs(is_term(("f", (low, 0))), False)


if __name__ == "__main__":
    unittest.main()
