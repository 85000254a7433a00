"""[27]: texts of proofs."""

import random
import unittest

from proofsizes.errors import BadQuestion
from proofsizes.lexing import BadText
from proofsizes.programs import Program, Question, Rule
from proofsizes.prooftexts import read_proofs, write_proofs
from proofsizes.proofs import numbers_in
from proofsizes.searching import proofs_of_levels, proofs_of_size
from tests.samples import ALL_COUNTS, COUNTS, JOINED, SPLIT, W, X, Y, Z, random_program, random_question, row_of, wrapped

TREES = Program([Rule(("tree", (X,)), []), Rule(("tree", (("two", (X, Y)),)), [("tree", (X,)), ("tree", (Y,))])])
TWO = Question([X], [("tree", (("two", (X, Y)),)), ("tree", (Z,))])
TWO_PROOFS = ((1, ((0, ()), (1, ((0, ()), (0, ()))))), (0, ()))
TWO_TEXT = "1 tree(two(?0, two(?1, ?2)))\n  0 tree(?0)\n  1 tree(two(?1, ?2))\n    0 tree(?1)\n    0 tree(?2)\n0 tree(?3)"


class WriteTest(unittest.TestCase):
    def test_by_hand(self):
        proofs = ((1, ((0, ()),)),)
        text = "1 joined(row(a, none), row(a, none), row(a, row(a, none)))\n  0 joined(none, row(a, none), row(a, none))"
        self.assertEqual(write_proofs(JOINED, SPLIT, proofs), text)
        self.assertEqual(write_proofs(TREES, TWO, TWO_PROOFS), TWO_TEXT)

    def test_unknowns_are_named_by_the_asked_terms_first(self):
        program = Program([Rule(("p", (X, Y)), [("q", (Z, Y))]), Rule(("q", (X, Y)), [])])
        question = Question([W, ("f", (Y, X))], [("p", (X, Y))])
        self.assertEqual(write_proofs(program, question, ((0, ((1, ()),)),)), "0 p(?2, ?1)\n  1 q(?3, ?1)")

    def test_what_equal_goals_ask_is_put_in(self):
        program = Program([Rule(("p", (X,)), [("q", (Y,)), ("equal", (X, ("f", (Y,))))]), Rule(("q", (X,)), [("unlike", (X, 1))])])
        question = Question([X], [("p", (X,)), ("equal", (X, ("f", (("g", (Y,)),))))])
        self.assertEqual(write_proofs(program, question, ((0, ((1, ()),)),)), "0 p(f(g(?0)))\n  1 q(g(?0))")

    def test_names_and_no_terms(self):
        program = Program([Rule(("if", ()), [("ask", (-7,))]), Rule(("ask", (X,)), [])])
        self.assertEqual(write_proofs(program, Question([], [("if", ())]), ((0, ((1, ()),)),)), "0 $if\n  1 $ask(-7)")

    def test_no_goals(self):
        self.assertEqual(write_proofs(COUNTS, Question([X], []), ()), "")
        self.assertEqual(write_proofs(COUNTS, Question([X], [("unlike", (X, 1))]), ()), "")

    def test_wrong(self):
        never = Question([X], [("count", (X,)), ("equal", (X, 7))])
        for question, proofs in (
            (ALL_COUNTS, None), (ALL_COUNTS, ()), (ALL_COUNTS, [(0, ())]), (ALL_COUNTS, ((0,),)), (ALL_COUNTS, ((2, ()),)),
            (ALL_COUNTS, ((True, ()),)), (ALL_COUNTS, ((0, ((0, ()),)),)), (never, ((0, ()),)), (never, ((1, ((0, ()),)),)),
            (Question([], [("equal", (1, 2))]), ()), (Question([], []), ((0, ()),)),
        ):
            with self.assertRaises(BadQuestion) as caught:
                write_proofs(COUNTS, question, proofs)
            self.assertEqual(caught.exception.part, "proofs")


class ReadTest(unittest.TestCase):
    def bad(self, program, question, text, line, column):
        with self.assertRaises(BadText, msg=text) as caught:
            read_proofs(program, question, text)
        self.assertEqual((caught.exception.line, caught.exception.column), (line, column), text)

    def test_round_trip(self):
        for program, question, most in ((JOINED, SPLIT, 3), (COUNTS, ALL_COUNTS, 5), (TREES, TWO, 8)):
            for size in range(most + 1):
                for proofs in proofs_of_size(program, question, size):
                    self.assertEqual(read_proofs(program, question, write_proofs(program, question, proofs)), proofs)

    def test_random_round_trip(self):
        source = random.Random(601)
        many = 0
        for _ in range(300):
            program, question = random_program(source), random_question(source)
            for proofs in proofs_of_levels(program, question, 2)[:8]:
                text = write_proofs(program, question, proofs)
                self.assertEqual(len(text.split("\n")) if text else 0, len(numbers_in(proofs)))
                self.assertEqual(read_proofs(program, question, text), proofs)
                many += 1
        self.assertGreater(many, 100)

    def test_words_may_stand_otherwise(self):
        text = "1tree ( two(?0,two(?1 ,?2)) )  # the first\n  0   $tree(?0)#\n  1 tree(two(?1, ?2))\n    0 tree(?1)\n    0 tree(?2)\n0 tree(?3)"
        self.assertEqual(read_proofs(TREES, TWO, text), TWO_PROOFS)

    def test_no_lines(self):
        self.assertEqual(read_proofs(COUNTS, Question([X], []), ""), ())
        self.bad(COUNTS, ALL_COUNTS, "", 1, 1)
        for text, line, column in (("\n", 1, 1), (" ", 1, 2), ("#a", 1, 3), ("0 count(0)\n", 2, 1), ("\n0 count(0)", 1, 1)):
            self.bad(COUNTS, ALL_COUNTS, text, line, column)
            self.bad(COUNTS, Question([X], []), text, line, column)

    def test_words_that_can_not_stand(self):
        for text, line, column in (
            ("count(0)", 1, 1), ("?0 count(0)", 1, 1), ("0", 1, 2), ("0 ", 1, 3), ("0 count(0) count(0)", 1, 12),
            ("0 count(0", 1, 10), ("0 count(0).", 1, 11), ("0 7", 1, 3), ("0 ?x", 1, 3), ("0 equal(1, 2)", 1, 3),
            ("0 $unlike(1, 2)", 1, 3), ("0 if", 1, 3), ("0 count()", 1, 9), ("00 count(0)", 1, 1), ("1234567 count(0)", 1, 1),
            ("-0 count(0)", 1, 1), ("-1 count(0)", 1, 1), (" 0 count(0)", 1, 2), ("   0 count(0)", 1, 4),
            ("   ", 1, 4), ("   count", 1, 4), ("0 count(1, 2, 3, 4, 5, 6, 7)", 1, 3), ("0 ninesigns(0)", 1, 3), ("0\tcount(0)", 1, 2),
            ("0 count(1234567)", 1, 9), ("0 Count(0)", 1, 3), ("1 count(s(0))\n -5 count(0)", 2, 2), ("0 count(0)\n0 count(0)\n0", 3, 2),
        ):
            self.bad(COUNTS, ALL_COUNTS, text, line, column)

    def test_too_deep(self):
        deep = "0 count(" + "s(" * 20 + "0" + ")" * 21
        self.bad(COUNTS, ALL_COUNTS, deep, 1, 9 + 2 * 20)
        program = Program([Rule(("big", (0,)), []), Rule(("big", (wrapped(19, X),)), [("big", (X,))])])
        text = write_proofs(program, Question([X], [("big", (X,))]), ((1, ((1, ((0, ()),)),)),))
        self.bad(program, Question([X], [("big", (X,))]), text, 1, 7 + 2 * 20)

    def test_words_come_ahead_of_places(self):
        self.bad(COUNTS, ALL_COUNTS, "9 count(0)\n0 count(", 2, 9)
        self.bad(COUNTS, ALL_COUNTS, "9 count(0)\n 0 count(0)", 2, 2)

    def test_places(self):
        for text, line, column in (
            ("  0 count(0)", 1, 3), ("2 count(0)", 1, 1), ("999999 count(0)", 1, 1), ("1 count(s(0))\n0 count(0)", 2, 1),
            ("1 count(s(0))\n    0 count(0)", 2, 5), ("1 count(s(0))", 2, 1), ("0 count(0)\n0 count(0)", 2, 1),
            ("0 count(0)\n  0 count(0)", 2, 3), ("1 count(s(0))\n  1 count(0)", 3, 1),
        ):
            self.bad(COUNTS, ALL_COUNTS, text, line, column)
        other = Program(list(COUNTS.rules) + [Rule(("count", (1, 2)), []), Rule(("many", (1,)), [])])
        self.bad(other, ALL_COUNTS, "2 count(1, 2)", 1, 1)
        self.bad(other, ALL_COUNTS, "1 count(s(0))\n  3 many(1)", 2, 3)
        self.bad(COUNTS, Question([], []), "0 count(0)", 1, 1)
        self.bad(COUNTS, Question([], [("many", ())]), "0 count(0)", 1, 1)

    def test_places_come_ahead_of_answers(self):
        question = Question([X], [("count", (X,)), ("equal", (X, 7))])
        self.bad(COUNTS, question, "1 count(0)", 2, 1)
        for text in ("0 count(0)", "0 other(1, 2)", "1 a\n  0 b"):
            with self.assertRaises(BadQuestion) as caught:
                read_proofs(COUNTS, question, text)
            self.assertEqual(caught.exception.part, "proofs")

    def test_other_heads(self):
        for text, line, column in (
            ("0 count(1)", 1, 3), ("0 many(0)", 1, 3), ("0 count", 1, 3), ("0 count(0, 0)", 1, 3), ("1 count(s(0))\n  0 count(1)", 2, 5),
            ("1 count(s(?0))\n  0 count(?0)", 1, 3), ("1 count(s(0))\n  0    count(s(0))", 2, 8), ("0 count(?0)", 1, 3),
        ):
            self.bad(COUNTS, ALL_COUNTS, text, line, column)
        for old, new, line, column in (("?0", "?x", 1, 3), ("?3", "?4", 6, 3), ("  0 tree(?2)", "  0 tree(?1)", 5, 7)):
            self.bad(TREES, TWO, TWO_TEXT.replace(old, new), line, column)

    def test_no_string(self):
        for text in (None, 7, b"0 count(0)", ["0 count(0)"], True):
            self.bad(COUNTS, ALL_COUNTS, text, 0, 0)

    def test_spoilt_texts(self):
        source = random.Random(607)
        texts = [(TREES, TWO, TWO_TEXT), (JOINED, SPLIT, write_proofs(JOINED, SPLIT, ((1, ((1, ((0, ()),)),)),)))]
        for program, question, text in texts:
            proofs = read_proofs(program, question, text)
            for _ in range(400):
                at = source.randrange(len(text))
                spoilt = text[:at] + source.choice(["", " ", "0", "1", "?", "(", "\n", ",", "a", "#"]) + text[at + source.choice([0, 1]):]
                try:
                    found = read_proofs(program, question, spoilt)
                except BadText as bad:
                    self.assertTrue(1 <= bad.line <= spoilt.count("\n") + 2)
                else:
                    self.assertEqual(found, proofs)


if __name__ == "__main__":
    unittest.main()
