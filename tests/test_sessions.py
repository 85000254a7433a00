"""[21]: desks."""

import random
import unittest

from proofsizes.answers import Answer
from proofsizes.errors import BadRule, RelationError, TooLarge
from proofsizes.programs import Program, Question, Rule
from proofsizes.searching import Answered, answered
from proofsizes.sessions import Desk, NoStep
from tests.samples import COUNTS, JOINED, SPLIT, X, Y, Z, numbers_of, random_program, random_question, wrapped

ALL = Question([X], [("p", (X,))])


def looks(desk):
    """All attributes of a desk that the document names."""
    return desk.program, desk.question, desk.size, desk.told


class DeskTest(unittest.TestCase):
    def test_ahead_of_the_first_question(self):
        desk = Desk(JOINED)
        self.assertEqual(looks(desk), (JOINED, None, -1, ()))
        self.assertEqual(desk.put(Rule(("p", ()), [])), [])
        self.assertEqual(desk.take(0), [])
        self.assertEqual(desk.uses(0), 0)
        self.assertEqual(len(desk.program.rules), 2)
        self.assertEqual((desk.question, desk.size, desk.told), (None, -1, ()))

    def test_more(self):
        desk = Desk(JOINED)
        self.assertIsNone(desk.ask(SPLIT))
        self.assertEqual(looks(desk), (JOINED, SPLIT, -1, ()))
        for size in range(5):
            new = desk.more()
            whole = answered(JOINED, SPLIT, size)
            self.assertIsInstance(new, list)
            self.assertIsInstance(desk.told, tuple)
            self.assertEqual(new, [one for one in whole if one.size == size])
            self.assertEqual(looks(desk), (JOINED, SPLIT, size, tuple(whole)))
        desk.ask(Question([X], []))
        self.assertEqual((desk.size, desk.told), (-1, ()))
        self.assertEqual(desk.more(), [Answered(Answer([X], []), 0, ())])

    def test_put(self):
        desk = Desk(Program([Rule(("p", (1,)), [])]))
        desk.ask(ALL)
        desk.more()
        desk.more()
        self.assertEqual(desk.put(Rule(("p", (2,)), [])), [Answered(Answer([2], []), 1, ((1, ()),))])
        self.assertEqual(desk.put(Rule(("p", (2,)), [])), [])
        self.assertEqual(desk.put(Rule(("p", (3,)), [("p", (1,))])), [])
        self.assertEqual(desk.more(), [Answered(Answer([3], []), 2, ((3, ((0, ()),)),))])
        # An answer with all instances takes the place of all of a greater size.
        self.assertEqual(desk.put(Rule(("p", (X,)), [])), [Answered(Answer([X], []), 1, ((4, ()),))])
        self.assertEqual([one.answer.terms[0] for one in desk.told], [1, 2, ("?", 0)])
        self.assertEqual([rule.head[1][0] for rule in desk.program.rules], [1, 2, 2, 3, X])

    def test_what_was_told_ahead_with_other_proofs_is_not_new(self):
        desk = Desk(Program([Rule(("q", (1,)), []), Rule(("p", (X,)), [("q", (X,))])]))
        desk.ask(ALL)
        for _ in range(3):
            desk.more()
        self.assertEqual([(one.size, one.proofs) for one in desk.told], [(2, ((1, ((0, ()),)),))])
        self.assertEqual(desk.put(Rule(("p", (1,)), [])), [])
        self.assertEqual([(one.size, one.proofs) for one in desk.told], [(1, ((2, ()),))])
        self.assertEqual(desk.take(2), [])
        self.assertEqual([(one.size, one.proofs) for one in desk.told], [(2, ((1, ((0, ()),)),))])

    def test_take(self):
        rules = [Rule(("p", (X,)), []), Rule(("p", (1,)), []), Rule(("p", (2,)), []), Rule(("q", (X,)), [])]
        desk = Desk(Program(rules))
        desk.ask(ALL)
        desk.more()
        desk.more()
        told = desk.told
        self.assertEqual([one.answer.terms[0] for one in told], [1, 2, ("?", 0)])
        self.assertEqual(desk.take(1), [told[0]])
        self.assertEqual(desk.program, Program([rules[0], rules[2], rules[3]]))
        self.assertEqual(desk.take(0), [told[2]])
        self.assertEqual(desk.take(1), [])
        self.assertEqual(desk.take(0), [Answered(Answer([2], []), 1, ((0, ()),))])
        self.assertEqual(looks(desk), (Program([]), ALL, 1, ()))

    def test_uses(self):
        desk = Desk(JOINED)
        desk.ask(SPLIT)
        self.assertEqual((desk.uses(0), desk.uses(1)), (0, 0))
        for size, uses in enumerate([(0, 0), (1, 0), (2, 1), (3, 3), (3, 3)]):
            desk.more()
            self.assertEqual((desk.uses(0), desk.uses(1)), uses, size)
        desk.put(Rule(("other", ()), []))
        self.assertEqual(desk.uses(2), 0)

    def test_undo_of_each_step(self):
        desk = Desk(JOINED)
        seen = [looks(desk)]
        for step in (
            lambda: desk.ask(SPLIT),
            desk.more,
            desk.more,
            lambda: desk.put(Rule(("joined", (X, X, Y)), [])),
            lambda: desk.take(0),
            desk.more,
            lambda: desk.ask(Question([], [])),
            desk.more,
            lambda: desk.take(1),
            lambda: desk.put(JOINED.rules[0]),
        ):
            step()
            seen.append(looks(desk))
        for before in seen[-2::-1]:
            self.assertIsNone(desk.undo())
            self.assertEqual(looks(desk), before)
        with self.assertRaises(NoStep):
            desk.undo()
        desk.ask(SPLIT)
        desk.more()
        desk.undo()
        desk.more()
        desk.undo()
        desk.undo()
        self.assertEqual(looks(desk), seen[0])

    def test_against_the_told_list_made_anew(self):
        source = random.Random(151)
        kinds = {}
        for _ in range(25):
            desk = Desk(random_program(source))
            seen = []
            for _ in range(25):
                before = looks(desk)
                kind = self.random_step(source, desk, seen)
                kinds[kind] = kinds.get(kind, 0) + 1
                if kind == "undo":
                    self.assertEqual(looks(desk), seen.pop())
                else:
                    seen.append(before)
                self.check_told(desk)
        self.assertGreater(min(kinds.values()), 20)

    def random_step(self, source, desk, seen):
        told = desk.told
        chance = source.random()
        if chance < 0.15 and seen:
            desk.undo()
            return "undo"
        if desk.question is None or chance < 0.25:
            desk.ask(random_question(source))
            return "ask"
        if chance < 0.6 and desk.size < 3:
            new = desk.more()
            self.assertEqual(list(told) + new, list(desk.told))
            return "more"
        if chance < 0.8 and len(desk.program.rules) < 7:
            rules = desk.program.rules
            rule = source.choice(random_program(source).rules)
            new = desk.put(rule)
            self.assertEqual(desk.program, Program(rules + (rule,)))
            answers = [one.answer for one in told]
            self.assertEqual(new, [one for one in desk.told if one.answer not in answers])
            return "put"
        if desk.program.rules:
            number = source.randrange(len(desk.program.rules))
            gone = desk.take(number)
            answers = [one.answer for one in desk.told]
            self.assertEqual(gone, [one for one in told if one.answer not in answers])
            return "take"
        desk.ask(random_question(source))
        return "ask"

    def check_told(self, desk):
        anew = []
        if desk.question is not None and desk.size >= 0:
            anew = answered(desk.program, desk.question, desk.size)
        self.assertEqual(desk.told, tuple(anew))
        for number in range(len(desk.program.rules)):
            self.assertEqual(desk.uses(number), sum(numbers_of(one.proofs).count(number) for one in anew))


class WrongTest(unittest.TestCase):
    def unchanged(self, desk, error, call, *parts):
        before = looks(desk)
        with self.assertRaises(error) as caught:
            call()
        self.assertEqual(tuple(caught.exception.__dict__.values()), parts)
        self.assertEqual(looks(desk), before)

    def test_no_step(self):
        self.assertIs(NoStep.__mro__[1], RelationError)
        desk = Desk(COUNTS)
        self.unchanged(desk, NoStep, desk.undo)
        self.unchanged(desk, NoStep, desk.more)
        desk.put(Rule(("p", ()), []))
        self.unchanged(desk, NoStep, desk.more)
        desk.undo()
        self.unchanged(desk, NoStep, desk.undo)
        desk.ask(ALL)
        desk.undo()
        self.unchanged(desk, NoStep, desk.more)

    def test_bad_rules(self):
        desk = Desk(COUNTS)
        desk.ask(Question([X], [("count", (X,))]))
        desk.more()
        desk.more()
        for number in (2, -1, None, True, "0", ()):
            self.unchanged(desk, BadRule, lambda: desk.take(number), number, "number")
            self.unchanged(desk, BadRule, lambda: desk.uses(number), number, "number")
        for rule in (None, 3, ("p", ()), COUNTS):
            self.unchanged(desk, BadRule, lambda: desk.put(rule), 2, "rule")
        for _ in range(14):
            desk.put(Rule(("p", ()), []))
        for rule in (Rule(("p", ()), []), None):
            self.unchanged(desk, BadRule, lambda: desk.put(rule), None, "rules")
        desk.undo()
        self.assertEqual(len(desk.program.rules), 15)
        self.unchanged(desk, BadRule, lambda: desk.take(15), 15, "number")

    def test_too_large(self):
        rules = [Rule(("p", (X,)), [("unlike", (X, 10 * n + m)) for m in range(6)]) for n in range(7)]
        question = Question([X, Y, Z], [("p", (X,)), ("p", (Y,)), ("p", (Z,))])
        desk = Desk(Program(rules))
        desk.ask(question)
        for _ in range(3):
            desk.more()
        with self.assertRaises(TooLarge):
            answered(Program(rules), question, 3)
        before = looks(desk)
        with self.assertRaises(TooLarge):
            desk.more()
        self.assertEqual(looks(desk), before)
        for _ in range(6):
            desk.take(0)
        desk.more()
        self.assertEqual((desk.size, len(desk.program.rules)), (3, 1))
        seen = [looks(desk)]
        with self.assertRaises(TooLarge):
            for rule in rules[:6]:
                desk.put(rule)
                seen.append(looks(desk))
        self.assertEqual(looks(desk), seen[-1])
        for before in seen[-2::-1]:
            desk.undo()
            self.assertEqual(looks(desk), before)

    def test_lists_are_new(self):
        desk = Desk(COUNTS)
        desk.ask(Question([X], [("count", (X,))]))
        desk.more()
        new = desk.more()
        new.append(None)
        self.assertEqual(desk.told, tuple(answered(COUNTS, desk.question, 1)))
        gone = desk.take(0)
        gone.clear()
        desk.undo()
        put = desk.put(Rule(("count", (wrapped(4, X),)), []))
        put.append(None)
        self.assertEqual(len(desk.told), 2)
        self.assertEqual(COUNTS, Program(list(COUNTS.rules)))


if __name__ == "__main__":
    unittest.main()
