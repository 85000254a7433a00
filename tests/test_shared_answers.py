"""[2], [6], [7], [9], [10], [12], [17], [19], [20], [21], [28]: answers whose terms share their parts."""

import unittest

from proofsizes.answers import Answer, is_instance
from proofsizes.completing import Complete, OneSided, SameInstances, complete, judge_instances
from proofsizes.covering import Covered, Outside, judge_covered
from proofsizes.errors import BadAnswer
from proofsizes.forward import facts_of_size
from proofsizes.meeting import is_pattern_of, kept, least_pattern, meet
from proofsizes.programs import Program, Question, Rule
from proofsizes.proofs import answer_of
from proofsizes.searching import Answered, answered, proofs_of_levels
from proofsizes.sessions import Desk
from proofsizes.streams import from_left, in_turns, open_answers
from proofsizes.tabling import tabled
from proofsizes.texts import read_program, read_question
from proofsizes.unfolding import carried, unfolded
from tests.samples import X, Y, wrapped
from tests.shared import ASK_D, ASK_E, DOUBLES, TWO, answer_d, answer_e, depth, numbers_chained, shared

MANY = 41
# Pairs of the same terms that come of unlike rules, and one more that takes the two of a pair for the same.
PAIRS = read_program(
    "a(0, c). a(s(?n), f(?t, ?t)) if a(?n, ?t). b(0, c). b(s(?n), f(?t, ?t)) if b(?n, ?t). "
    "g(?n, f(?t, ?u)) if a(?n, ?t), b(?n, ?u). h(?x) if g(?n, f(?x, ?x))."
)
PART = read_program("d(0, ?x). d(s(?n), f(?t, ?t)) if d(?n, ?t), ?t /= b. p(?t) if d(?n, ?t), ?t /= f(b, b).")


def ends(answers):
    return [depth(answer.terms[0]) for answer in answers]


class ToldTest(unittest.TestCase):
    """The told list: one answer of each size, each f of the one ahead, twice."""

    def check(self, told):
        self.assertEqual([size for size, _ in told], list(range(1, MANY + 1)))
        self.assertEqual(ends(answer for _, answer in told), [(size, "a") for size, _ in told])
        for (_, one), (_, other) in zip(told, told[1:]):
            name, parts = other.terms[0]
            self.assertEqual((name, len(parts)), ("f", 2))
            for part in parts:
                self.assertIs(is_instance(one, (part,)), True)
                self.assertIs(is_instance(other, (part,)), False)

    def test_answered_and_tabled(self):
        found = answered(DOUBLES, ASK_D, MANY)
        self.check([(one.size, one.answer) for one in found])
        self.check(tabled(DOUBLES, ASK_D, MANY))
        self.assertEqual(found[0].answer, Answer(["a"], []))
        self.assertEqual([one.proofs for one in found], [numbers_chained(size, 0, 1) for size in range(1, MANY + 1)])

    def test_up_to_200(self):
        self.assertEqual(len(answered(DOUBLES, ASK_D, 200)), 200)
        self.assertEqual(ends(answer for _, answer in tabled(DOUBLES, ASK_D, 200)), [(size, "a") for size in range(1, 201)])

    def test_sizes_that_are_not_gone_through(self):
        number = wrapped(18, 0)
        question = Question([X, Y], [("d", (number, X)), ("e", (number, Y))])
        for told in ([(one.size, one.answer) for one in answered(TWO, question, 10 ** 12)], tabled(TWO, question, 10 ** 12)):
            self.assertEqual([size for size, _ in told], [38])
            self.assertEqual([depth(term) for term in told[0][1].terms], [(19, ("?", 0)), (19, "a")])

    def test_papers(self):
        one, other = [Answered(answer_of(DOUBLES, ASK_D, numbers_chained(MANY, 0, 1)), MANY, numbers_chained(MANY, 0, 1)) for _ in range(2)]
        self.assertIs(one.shows(DOUBLES, ASK_D), True)
        self.assertIs(one == other, True)
        self.assertIs(answered(DOUBLES, ASK_D, MANY)[-1] == one, True)
        less = answer_of(DOUBLES, ASK_D, numbers_chained(MANY - 1, 0, 1))
        wrong = Answered(less, MANY, one.proofs)
        self.assertIs(one == wrong, False)
        self.assertIs(wrong.shows(DOUBLES, ASK_D), False)
        self.assertIs(Answered(one.answer, MANY, numbers_chained(MANY - 1, 0, 1)).shows(DOUBLES, ASK_D), False)

    def test_desks(self):
        desk = Desk(DOUBLES)
        desk.ask(ASK_D)
        told = [(desk.size, one.answer) for _ in range(MANY + 1) for one in desk.more()]
        self.check(told)
        # From 13 within one another on all come with 12 rules less.
        new = desk.put(Rule(("d", (X, shared(12, "a"))), []))
        self.assertEqual(ends(one.answer for one in new), [(at, "a") for at in range(MANY + 1, MANY + 13)])
        self.assertEqual(len(desk.told), MANY + 12)
        self.assertEqual(ends(one.answer for one in desk.take(2)), [(at, "a") for at in range(MANY + 1, MANY + 13)])
        desk.undo()
        desk.undo()
        self.check([(one.size, one.answer) for one in desk.told])
        self.assertEqual(desk.uses(1), MANY * (MANY - 1) // 2)

    def test_the_same_terms_by_unlike_rules(self):
        number = wrapped(18, 0)
        self.assertEqual(ends(one.answer for one in complete(PAIRS, Question([X], [("g", (number, X))]), 30).answers), [(20, "c")])
        question = Question([X], [("h", (X,)), ("g", (number, ("f", (X, X))))])
        one, other = complete(PAIRS, question, 30), complete(PAIRS, question, 30)
        self.assertEqual(ends(told.answer for told in one.answers), [(19, "c")])
        self.assertIs(one.shows(PAIRS, question), True)
        self.assertIs(one == other, True)
        self.assertIs(one == Complete(one.levels, [Answered(answer_e(18), 78, other.answers[0].proofs)]), False)
        both = read_question("ask ?t, ?u if g(?n, ?t), g(?n, ?u).")
        told = tabled(PAIRS, both, 100)
        self.assertEqual([(one.size, one.answer) for one in answered(PAIRS, both, 50)], [pair for pair in told if pair[0] <= 50])
        self.assertEqual([[depth(term) for term in answer.terms] for _, answer in told], [[(at, "c")] * 2 for at in range(2, 26)])

    def test_inequations(self):
        told = tabled(PART, read_question("ask ?x if p(?x)."), 40)
        self.assertEqual([size for size, _ in told], [2])
        self.assertEqual(told[0][1], Answer([X], [[(X, ("f", ("b", "b")))]]))
        asked = Question([X], [("d", (wrapped(18, 0), X))])
        self.assertEqual([len(one.answer.inequations) for one in answered(PART, asked, 30)], [1])
        self.assertEqual([depth(answer.terms[0]) for _, answer in tabled(PART, asked, 30)], [(19, ("?", 0))])


class EqualTest(unittest.TestCase):
    """== and is_instance of answers that were made apart."""

    def test_equal(self):
        for make in (answer_d, answer_e):
            self.assertIs(make(MANY) == make(MANY), True)
            self.assertIs(make(MANY) == make(MANY - 1), False)
            self.assertIs(make(200) == make(200), True)
        self.assertIs(answer_d(MANY) == answer_e(MANY), False)
        self.assertIs(answer_e(MANY) == answer_e(MANY).terms, False)

    def test_handed_in(self):
        for parts in (2, 3, 6):
            one, other = [Answer([shared(19, "a", parts), shared(18, X, parts)], [[(X, shared(19, 1, parts))]]) for _ in range(2)]
            self.assertIs(one == other, True)
            self.assertIs(one == Answer([shared(19, "a", parts), shared(18, X, parts)], [[(X, shared(19, 2, parts))]]), False)
            self.assertIs(is_instance(one, other.terms[:1] + (shared(18, shared(19, 1, parts), parts),)), False)
            self.assertIs(is_instance(one, (shared(19, "a", parts), shared(18, shared(18, 1, parts), parts))), True)

    def test_is_instance(self):
        for one, other, is_one in ((answer_e(MANY), answer_e(MANY), True), (answer_e(MANY), answer_e(MANY - 1), False), (answer_d(MANY), answer_e(MANY), True), (answer_d(MANY - 1), answer_e(MANY), True), (answer_d(MANY + 1), answer_e(MANY), False)):
            self.assertIs(is_instance(one, other.terms), is_one)
            self.assertIs(is_instance(one, list(other.terms)), is_one)
            self.assertIs(is_instance(one, other.terms * 2), False)

    def test_rules_and_questions(self):
        for make in (lambda end: Rule(("p", (shared(19, end, 3),)), [("equal", (shared(19, X, 3), end))]), lambda end: Question([shared(19, end, 3)], [("p", (shared(19, X, 3), end))])):
            self.assertIs(make("a") == make("a"), True)
            self.assertIs(make("a") == make("b"), False)
            self.assertIs(make("a") == None, False)
        program = Program([Rule(("p", (shared(19, "a", 3),)), [])])
        self.assertIs(program == Program([Rule(("p", (shared(19, "a", 3),)), [])]), True)


class CoveredTest(unittest.TestCase):
    def test_covered(self):
        for answer, others, kind in (
            (answer_e(MANY), [answer_e(MANY)], Covered), (answer_e(MANY), [answer_d(MANY)], Covered), (answer_d(MANY), [answer_e(MANY)], Outside),
            (answer_e(MANY), [answer_e(MANY - 1)], Outside), (answer_d(MANY), [answer_d(MANY - 1)], Covered), (answer_d(MANY), [answer_d(MANY + 1), answer_e(MANY)], Outside),
        ):
            paper = judge_covered(answer, others)
            self.assertIs(type(paper), kind)
            self.assertIs(paper.shows(answer, others), True)
            self.assertIs(paper == judge_covered(answer, others), True)
        row = judge_covered(answer_e(MANY), [answer_e(MANY - 1)]).row
        self.assertEqual(depth(row[0]), (MANY, "a"))
        self.assertIs(Outside(row) == Outside(answer_e(MANY).terms), True)
        self.assertIs(Outside(row) == Outside(answer_e(MANY - 1).terms), False)
        self.assertIs(Outside(answer_e(MANY - 1).terms).shows(answer_e(MANY), [answer_e(MANY - 1)]), False)
        self.assertIs(Outside(answer_d(MANY).terms).shows(answer_d(MANY), []), False)

    def test_inequations(self):
        bound = answer_d(MANY)
        large = shared(18, "a", 3)
        one, other = Answer([X, Y], [[(X, large)]]), Answer([X, Y], [[(X, shared(18, "a", 3)), (Y, shared(18, "b", 3))]])
        self.assertIs(bool(judge_covered(one, [other])), True)
        paper = judge_covered(other, [one])
        self.assertEqual(depth(paper.row[0]), (19, "a"))
        self.assertIs(paper.shows(other, [one]), True)
        self.assertIs(bool(judge_covered(other, [one, Answer([shared(18, "a", 3), Y], [])])), True)
        self.assertIs(bool(judge_covered(bound, [Answer([X], [])])), True)

    def test_instances(self):
        self.assertEqual(judge_instances([answer_e(MANY)], [answer_e(MANY)]), SameInstances())
        self.assertIs(SameInstances().shows([answer_e(MANY)], [answer_e(MANY)]), True)
        self.assertIs(bool(judge_instances([answer_d(MANY), answer_e(MANY)], [answer_d(MANY)])), True)
        for one, other, is_first in ((answer_e(MANY), answer_e(MANY - 1), True), (answer_d(MANY), answer_e(MANY), True), (answer_e(MANY), answer_d(MANY), False)):
            paper = judge_instances([one], [other])
            self.assertIs(type(paper), OneSided)
            self.assertIs(paper.is_first, is_first)
            self.assertIs(paper.shows([one], [other]), True)
            self.assertIs(paper == judge_instances([one], [other]), True)
            self.assertIs(OneSided(paper.row, not is_first).shows([one], [other]), False)
        self.assertIs(OneSided(answer_e(MANY).terms, True) == OneSided(answer_e(MANY - 1).terms, True), False)
        with self.assertRaises(BadAnswer):
            judge_instances([answer_e(MANY)], [kept(answer_e(MANY), [0, 0])])


class MeetingTest(unittest.TestCase):
    def test_meet(self):
        self.assertIs(meet(answer_e(MANY), answer_e(MANY)) == answer_e(MANY), True)
        self.assertIs(meet(answer_d(MANY), answer_e(MANY)) == answer_e(MANY), True)
        self.assertIs(meet(answer_d(MANY - 3), answer_d(MANY)) == answer_d(MANY), True)
        self.assertIsNone(meet(answer_e(MANY), answer_e(MANY - 1)))
        self.assertIsNone(meet(answer_d(MANY + 1), answer_e(MANY)))

    def test_least_pattern(self):
        self.assertIs(least_pattern(answer_e(MANY), answer_e(MANY)) == answer_e(MANY), True)
        self.assertIs(least_pattern(answer_e(MANY), answer_e(MANY - 1)) == answer_d(MANY - 1), True)
        self.assertIs(least_pattern(answer_d(MANY), answer_e(MANY)) == answer_d(MANY), True)
        self.assertIs(least_pattern(answer_d(MANY), answer_d(MANY)) == answer_d(MANY), True)
        # Unlike pairs of parts have unlike unknowns.
        one, other = Answer([("g", ("a", "b", "a"))], []), Answer([("g", (0, 0, 0))], [])
        self.assertEqual(least_pattern(one, other), Answer([("g", (X, Y, X))], []))
        twice = Answer([("g", (("f", (X, X)), "a"))], [])
        self.assertEqual(least_pattern(twice, Answer([("g", (("f", (1, 2)), "a"))], [])), Answer([("g", (("f", (X, Y)), "a"))], []))

    def test_patterns(self):
        self.assertIs(is_pattern_of(answer_d(MANY), answer_e(MANY)), True)
        self.assertIs(is_pattern_of(answer_e(MANY), answer_e(MANY)), True)
        self.assertIs(is_pattern_of(answer_e(MANY), answer_d(MANY)), False)
        self.assertIs(is_pattern_of(answer_e(MANY), answer_e(MANY - 1)), False)
        self.assertIs(is_pattern_of(answer_d(MANY), answer_d(MANY - 1)), False)

    def test_kept(self):
        both = kept(answer_e(MANY), [0, 0])
        self.assertEqual([depth(term) for term in both.terms], [(MANY, "a")] * 2)
        self.assertIs(kept(both, [1]) == answer_e(MANY), True)


class InequationsTest(unittest.TestCase):
    """Answers that bar terms which share their parts."""

    PROGRAM = read_program(
        "d(0, a). d(s(?n), f(?t, ?t)) if d(?n, ?t). g(?n, ?x, ?y) if d(?n, ?t), ?x /= ?t, f(?x, ?y) /= f(?t, ?t). "
        "k(?n, ?x, f(?x, ?t)) if d(?n, ?t), ?x /= ?t."
    )
    ASKED = read_question("ask ?x, ?y if g(?n, ?x, ?y).")
    BOTH = read_question("ask ?x, ?y if k(?n, ?x, ?y).")

    def answer(self, size):
        return answer_of(self.PROGRAM, self.ASKED, ((2, numbers_chained(size, 0, 1)),))

    def term(self, size):
        return answer_of(self.PROGRAM, ASK_D, numbers_chained(size, 0, 1)).terms[0]

    def test_normal_forms(self):
        one = self.answer(MANY)
        self.assertEqual([[depth(side) for side in pair] for pairs in one.inequations for pair in pairs], [[(1, ("?", 0)), (MANY, "a")]])
        self.assertIs(one == self.answer(MANY), True)
        self.assertIs(one == self.answer(MANY - 1), False)

    def test_instances(self):
        one, other = self.answer(MANY), self.answer(MANY - 1)
        for row, is_one in (((self.term(MANY), "b"), False), (("b", self.term(MANY)), True), ((self.term(MANY - 1), self.term(MANY)), True)):
            self.assertIs(is_instance(one, row), is_one)
        self.assertEqual([bool(judge_covered(*sides)) for sides in ((one, [self.answer(MANY)]), (one, [other]), (Answer([X, Y], []), [one, other]), (one, [Answer([X, Y], [])]))], [True, False, True, True])
        paper = judge_covered(one, [other])
        self.assertEqual(depth(paper.row[0]), (MANY - 1, "a"))
        self.assertIs(paper.shows(one, [other]), True)
        self.assertIs(bool(judge_instances([one, other], [Answer([X, Y], [])])), True)
        paper = judge_instances([one], [other])
        self.assertIs(paper.shows([one], [other]), True)

    def test_together(self):
        one, other = self.answer(MANY), self.answer(MANY - 1)
        both = meet(one, other)
        self.assertEqual([depth(pairs[0][1])[0] for pairs in both.inequations], [MANY - 1, MANY])
        self.assertIs(both == meet(other, one), True)
        self.assertIs(meet(one, self.answer(MANY)) == one, True)
        self.assertEqual(kept(one, [1]), Answer([X], []))
        self.assertEqual(least_pattern(one, other), Answer([X, Y], []))

    def test_told(self):
        self.assertEqual([size for size, _ in tabled(self.PROGRAM, self.ASKED, MANY)], [2, 3])
        told = tabled(self.PROGRAM, self.BOTH, MANY)
        self.assertEqual([(one.size, one.answer) for one in answered(self.PROGRAM, self.BOTH, MANY)], told)
        self.assertEqual([depth(answer.inequations[0][0][1]) for _, answer in told], [(size - 1, "a") for size, _ in told])
        self.assertEqual(len(told), MANY - 1)
        answers = [answer for _, answer in told]
        paper = judge_instances(answers, answers[1:])
        self.assertEqual((paper.is_first, paper.shows(answers, answers[1:])), (True, True))


class RoadsTest(unittest.TestCase):
    """Other ways to answers."""

    def test_open_answers(self):
        found = open_answers(DOUBLES, ASK_D, MANY)
        self.assertEqual(ends(found), [(at, "a") for at in range(1, MANY + 1)] + [(MANY + 1, ("?", 0))])
        for one, told in zip(found, answered(DOUBLES, ASK_D, MANY)):
            self.assertIs(one == told.answer, True)
        self.assertEqual(len(open_answers(TWO, read_question("ask ?t, ?u if d(?n, ?t), e(?n, ?u)."), 20)), len(open_answers(TWO, read_question("ask ?n if d(?n, ?t), e(?n, ?u)."), 20)))

    def test_ways(self):
        for call in (from_left, in_turns):
            came = call(TWO, ASK_E, 60)
            self.assertEqual(len(came.proofs), 60)
            self.assertIs(came == call(TWO, ASK_E, 60), True)

    def test_facts_and_levels(self):
        self.assertEqual(ends(kept(one, [1]) for one in facts_of_size(DOUBLES, MANY)["d", 2]), [(MANY, "a")])
        self.assertEqual(len(proofs_of_levels(DOUBLES, ASK_D, MANY)), MANY)

    def test_unfolded(self):
        turned = unfolded(PAIRS, 4, 0).program
        proofs = complete(PAIRS, Question([X], [("g", (wrapped(18, 0), X))]), 30).answers[0].proofs
        question = Question([X], [("g", (wrapped(18, 0), X))])
        new = carried(PAIRS, 4, 0, question, proofs)
        self.assertIs(answer_of(turned, question, new) == answer_of(PAIRS, question, proofs), True)


if __name__ == "__main__":
    unittest.main()
