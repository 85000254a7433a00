"""[38]: shallow programs side by side."""

import random
import unittest

from proofsizes.differing import OnlyOne, SameTerms, judge_programs, needless_rules
from proofsizes.errors import BadQuestion, TooLarge
from proofsizes.programs import Program, Rule
from proofsizes.searching import Spent
from proofsizes.shallow import NotShallow, type_of
from proofsizes.terms import parts_of
from tests.samples import JOINED, X, Y, Z, wrapped
from tests.shallows import ALL_TERMS, EVEN, NAMES, random_shallow, slow_types
from tests.spoiling import check_spoilt
from tests.test_shallow import NOT_SHALLOW, letters

BY_FOUR = Program([Rule(("even", (0,)), []), Rule(("b", (wrapped(1, X),)), [("even", (X,))]), Rule(("even", (wrapped(1, X),)), [("b", (X,))])])
THIRDS = Program(
    [Rule(("even", (0,)), []), Rule(("b", (wrapped(1, X),)), [("even", (X,))]), Rule(("c", (wrapped(1, X),)), [("b", (X,))]), Rule(("even", (wrapped(1, X),)), [("c", (X,))])]
)


class JudgeTest(unittest.TestCase):
    def same(self, one, other, name):
        paper = judge_programs(one, other, name)
        self.assertEqual(paper, SameTerms())
        self.assertIs(bool(paper), True)
        self.assertIs(paper.shows(one, other, name), True)

    def only(self, one, other, name):
        paper = judge_programs(one, other, name)
        self.assertIsInstance(paper, OnlyOne)
        self.assertIs(bool(paper), False)
        self.assertIs(paper.shows(one, other, name), True)
        self.assertIs(SameTerms().shows(one, other, name), False)
        self.assertNotEqual(name in type_of(one, paper.term), name in type_of(other, paper.term))
        return paper.term

    def test_by_hand(self):
        self.same(EVEN, BY_FOUR, "even")
        self.same(BY_FOUR, EVEN, "even")
        self.only(EVEN, BY_FOUR, "odd")
        self.assertEqual(self.only(EVEN, THIRDS, "even"), wrapped(2, 0))
        self.same(EVEN, THIRDS, "other")
        self.same(Program([]), Program([]), "p")
        self.assertEqual(self.only(Program([Rule(("p", (X,)), [])]), Program([]), "p"), 0)

    def test_terms_of_neither_program(self):
        all_but = Program([Rule(("p", (X,)), [])])
        some = Program([Rule(("p", (0,)), []), Rule(("p", (1,)), []), Rule(("p", (("f", (X,)),)), [])])
        self.assertEqual(self.only(all_but, some, "p"), 2)

    def test_random(self):
        source = random.Random(757)
        kinds = {True: 0, False: 0}
        for _ in range(40):
            one = random_shallow(source, 7)
            other = Program([rule for rule in one.rules if source.random() < 0.8] + list(random_shallow(source, 2).rules[: source.randrange(3)]))
            found, others = slow_types(one, ALL_TERMS), slow_types(other, ALL_TERMS)
            for name in NAMES:
                try:
                    paper = judge_programs(one, other, name)
                except TooLarge as large:
                    self.assertGreater(large.number, 16)
                    continue
                kinds[bool(paper)] += 1
                if paper:
                    self.same(one, other, name)
                    self.assertTrue(all((name in found[term]) == (name in others[term]) for term in ALL_TERMS))
                else:
                    term = self.only(one, other, name)
                    if term in found and len(parts_of(term)) < 5:
                        self.assertNotEqual(name in found[term], name in others[term])
        self.assertGreater(min(kinds.values()), 15)

    def test_equal(self):
        self.assertEqual(SameTerms(), SameTerms())
        self.assertEqual(OnlyOne("a"), OnlyOne("a"))
        for other in (OnlyOne("b"), SameTerms(), Spent(0), None, "a"):
            self.assertNotEqual(OnlyOne("a"), other)
        for other in (OnlyOne("b"), Spent(0), None, True):
            self.assertNotEqual(SameTerms(), other)

    def test_wrong_papers(self):
        for term in (wrapped(6, 0), wrapped(1, 0), 0, "a", X, wrapped(2, X), None, ("s",), wrapped(12, 0)):
            self.assertIs(OnlyOne(term).shows(EVEN, THIRDS, "even"), False, term)
        for term in (wrapped(4, 0), wrapped(3, 0), wrapped(182, 0)):
            self.assertIs(OnlyOne(term).shows(EVEN, THIRDS, "even"), True, term)

    def test_spoilt(self):
        self.assertGreater(check_spoilt(self, judge_programs(EVEN, THIRDS, "even"), (EVEN, THIRDS, "even")), 50)
        check_spoilt(self, SameTerms(), (EVEN, BY_FOUR, "even"))


class NeedlessTest(unittest.TestCase):
    def test_by_hand(self):
        self.assertEqual(needless_rules(EVEN), ())
        more = Program(list(EVEN.rules) + [Rule(("nat", (wrapped(1, X),)), [("nat", (X,))]), Rule(("nat", (0,)), []), Rule(("even", ("c",)), [("never", (X,))])])
        self.assertEqual(needless_rules(more), (3, 4, 5, 6, 7))
        self.assertEqual(needless_rules(Program(list(EVEN.rules) + list(more.rules[5:6]))), (4, 5))
        twice = Program([Rule(("p", ("a",)), []), Rule(("p", ("a",)), [])])
        self.assertEqual(needless_rules(twice), (0, 1))
        self.assertEqual(needless_rules(Program([])), ())

    def test_unknowns_elsewhere(self):
        program = Program([Rule(("p", ("a",)), [("q", (Y,))]), Rule(("q", ("b",)), []), Rule(("q", ("c",)), [("p", (Z,))]), Rule(("r", (X,)), [("p", (X,)), ("q", (Y,))])])
        self.assertEqual(needless_rules(program), ())

    def test_random(self):
        source = random.Random(761)
        many = 0
        for _ in range(25):
            program = random_shallow(source, 7)
            found = slow_types(program, ALL_TERMS)
            try:
                told = needless_rules(program)
            except TooLarge as large:
                self.assertGreater(large.number, 16)
                continue
            many += len(told)
            for number in range(len(program.rules)):
                less = Program(program.rules[:number] + program.rules[number + 1 :])
                if number in told:
                    self.assertEqual(slow_types(less, ALL_TERMS), found)
                else:
                    self.assertTrue(any(not judge_programs(program, less, name) for name in NAMES))
        self.assertGreater(many, 10)


class WrongTest(unittest.TestCase):
    def raises(self, error, part, worth, call, *arguments):
        with self.assertRaises(error, msg=arguments) as caught:
            call(*arguments)
        self.assertEqual(getattr(caught.exception, part), worth)

    def calls(self):
        return [judge_programs, SameTerms().shows, OnlyOne("a").shows, OnlyOne(None).shows]

    def test_not_shallow(self):
        for call in self.calls():
            for rule in NOT_SHALLOW:
                wrong = Program([EVEN.rules[0], rule] + [rule] * 12)
                self.raises(NotShallow, "number", 1, call, wrong, JOINED, None)
                self.raises(NotShallow, "number", 1, call, letters(12), wrong, None)
        for rule in NOT_SHALLOW:
            self.raises(NotShallow, "number", 2, needless_rules, Program(list(EVEN.rules[:2]) + [rule] * 10))

    def test_names(self):
        for call in self.calls():
            for name in (None, "", "Even", 7, True, "ninesigns", ("even", 1)):
                self.raises(BadQuestion, "part", "name", call, EVEN, letters(16), name)

    def test_16_and_17_rules(self):
        self.assertTrue(judge_programs(letters(7), letters(7), "p0"))
        some = Program([Rule(("p", ("a",)), [])] * 8)
        self.assertTrue(judge_programs(some, some, "p"))
        for call in self.calls():
            self.raises(TooLarge, "number", 17, call, some, Program([Rule(("p", ("a",)), [])] * 9), "p")
        self.assertEqual(needless_rules(some), tuple(range(8)))
        self.raises(TooLarge, "number", 17, needless_rules, Program([Rule(("p", ("a",)), [])] * 9))

    def test_16_and_17_types(self):
        rules = [Rule(("p" + str(at), ("c" + str(at),)), []) for at in range(16)]
        for call in self.calls():
            self.raises(TooLarge, "number", 17, call, Program(rules[:8]), Program(rules[8:]), "p0")
        self.assertFalse(judge_programs(Program(rules[:8]), Program(rules[8:15]), "p0"))


if __name__ == "__main__":
    unittest.main()
