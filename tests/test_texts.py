"""[15]: texts of programs, questions and answers."""

import random
import unittest

from proofsizes.answers import Answer
from proofsizes.lexing import BadText
from proofsizes.programs import Program, Question, Rule
from proofsizes.searching import answered
from proofsizes.texts import read_program, read_question, write_answer, write_program, write_question
from tests.samples import COUNTS, JOINED, SPLIT, X, Y, Z, random_program, random_question, row_of, wrapped

FULL = "p(?x) if q(?x, 1), ?x /= f(a, ?y), g(b) = ?y, r."


def nested(many, inner="a"):
    """The text of a term with so many within one another."""
    return "s(" * (many - 1) + inner + ")" * (many - 1)


class BadTextTest(unittest.TestCase):
    def bad_at(self, call, text, line, column):
        with self.assertRaises(BadText, msg=text) as caught:
            call(text)
        self.assertEqual((caught.exception.line, caught.exception.column), (line, column), text)

    def bad_program(self, text, column, line=1):
        self.bad_at(read_program, text, line, column)

    def bad_question(self, text, column, line=1):
        self.bad_at(read_question, text, line, column)

    def bad_behind(self, text, behind=""):
        """A program's text that is bad at the word behind a first part."""
        self.bad_program(text + behind, len(text) + 1)


class ReadingTest(BadTextTest):
    def test_a_program(self):
        text = "joined(none, ?y, ?y).\njoined(row(a, ?x), ?y, row(a, ?z)) if joined(?x, ?y, ?z)."
        self.assertEqual(read_program(text), JOINED)
        self.assertEqual(write_program(JOINED), text)

    def test_a_question(self):
        text = "ask ?x, ?y if joined(?x, ?y, row(a, row(a, none)))."
        self.assertEqual(read_question(text), SPLIT)
        self.assertEqual(write_question(SPLIT), text)

    def test_all_kinds_of_goals(self):
        goals = [("q", (X, 1)), ("unlike", (X, ("f", ("a", Y)))), ("equal", (("g", ("b",)), Y)), ("r", ())]
        self.assertEqual(read_program(FULL), Program([Rule(("p", (X,)), goals)]))
        self.assertEqual(write_program(read_program(FULL)), FULL)
        question = "ask if q(?x, 1), ?x /= f(a, ?y), g(b) = ?y, r."
        self.assertEqual(read_question(question), Question([], goals))
        self.assertEqual(write_question(Question([], goals)), question)

    def test_without_goals_terms_and_rules(self):
        self.assertEqual(read_program(""), Program([]))
        self.assertEqual(read_program(" # none\n\n"), Program([]))
        self.assertEqual(write_program(Program([])), "")
        for question, text in (
            (Question([], []), "ask."),
            (Question([3, X], []), "ask 3, ?x."),
            (Question([], [("p", ())]), "ask if p."),
        ):
            self.assertEqual(write_question(question), text)
            self.assertEqual(read_question(text), question)
        self.assertEqual(write_program(Program([Rule(("p", ()), [])])), "p.")

    def test_loosely_put_texts_with_remarks(self):
        loose = "# all\n p(?x)if q(  ?x,1)\n,?x/=f(a,?y)#,\n  ,g(b)=?y,r # behind it\n\n ."
        self.assertEqual(write_program(read_program(loose)), FULL)
        self.assertEqual(read_question("\nask?x,?y#\nif\njoined(?x,?y,row(a,row(a,none))).  # ."), SPLIT)
        self.assertEqual(read_program("p.q.p(1)."), read_program("p .\nq .\n p ( 1 ) ."))
        self.assertEqual(read_question("ask?x."), read_question("ask ?x ."))

    def test_names_that_are_words_of_the_language(self):
        rule = Rule(("if", ("ask", ("equal", ("unlike", ("?", "if"))))), [("ask", ()), ("equal", ("equal", "if"))])
        text = "$if($ask, $equal($unlike, ?if)) if $ask, $equal = $if."
        self.assertEqual(write_program(Program([rule])), text)
        self.assertEqual(read_program(text), Program([rule]))
        self.assertEqual(read_program("$p($a) if $q(?x), $f($b) = ?x."), read_program("p(a) if q(?x), f(b) = ?x."))
        question = Question(["unlike", ("if", (("?", "ask"),))], [("unlike", (("unlike", (1,)), "ask")), ("if", ())])
        text = "ask $unlike, $if(?ask) if $unlike(1) /= $ask, $if."
        self.assertEqual(write_question(question), text)
        self.assertEqual(read_question(text), question)
        text = "ifs(askx) if equals, unlike1 = if2."
        self.assertEqual(write_program(read_program(text)), text)

    def test_integers_and_unknowns(self):
        text = "p(999999, -999999, 0, ?0, ?999999, ?a1)."
        terms = (999999, -999999, 0, ("?", 0), ("?", 999999), ("?", "a1"))
        self.assertEqual(read_program(text), Program([Rule(("p", terms), [])]))
        self.assertEqual(write_program(read_program(text)), text)

    def test_random_programs_and_questions(self):
        source = random.Random(51)
        for _ in range(200):
            program, question = random_program(source), random_question(source)
            self.assertEqual(read_program(write_program(program)), program)
            self.assertEqual(read_question(write_question(question)), question)
            self.assertEqual(len(write_program(program).split("\n")), len(program.rules))
            loose = write_program(program).replace(",", "#,\n , #").replace(" #", "#\n")
            self.assertEqual(read_program(loose), program)


class RefusedTest(BadTextTest):
    def test_words_that_cannot_stand(self):
        for text in (")", "?x.", "3.", "if.", "ask p.", "equal.", "unlike(a, b).", "$equal.", "$unlike(a, b).", "= a.",
                     ",", ".", "/", "$", "P.", "?", "007."):
            self.bad_program(text, 1)
        for text in ("p(a) ", "p if q(a) ", "p if ?x = f(a) "):
            for behind in ("p.", "3.", "?x.", "(", ")", "$.", "-0.", "ask"):
                self.bad_behind(text, behind)
        for text in ("p(", "p(a, ", "p if f(?x, ", "p if a = ", "p if a /= ", "p if f(a) = g("):
            for behind in (")", ",", ".", "if", "ask", "equal", "=", "/="):
                self.bad_behind(text, behind)
        for text in ("p", "p if q", "p(a) if ?x = a"):
            for behind in (" p.", " 3", " ?x", ")", "/"):
                self.bad_program(text + behind, len(text) + behind.count(" ") + 1)
        self.bad_behind("p(a ", "b).")
        self.bad_behind("p(a ", "= b).")
        self.bad_behind("p ", "= b.")
        self.bad_behind("p(?x", "(a)).")
        self.bad_behind("p(3", "(a)).")
        self.bad_behind("p if q, ", ".")
        self.bad_behind("p if q ", "q.")
        self.bad_behind("p if a = b ", "= c.")
        self.bad_behind("p. q. r", "?")

    def test_questions(self):
        for text in ("", "p.", "$ask 1.", "?x", "if p."):
            self.bad_question(text, 1)
        for text, behind in (
            ("ask ", ","), ("ask ", "= 1."), ("ask a ", "b."), ("ask a, ", "if p."), ("ask a, ", "."), ("ask. ", "ask."),
            ("ask a if ", "."), ("ask a if p ", "if q."), ("ask a if p. ", "p"), ("ask ", "ask 1."), ("ask p(a) ", "= b."),
        ):
            self.bad_question(text + behind, len(text) + 1)

    def test_where_a_relation_must_be(self):
        self.bad_program("p. $equal(a, b) if q.", 4)
        for goal in ("3", "?x", "-7", "$equal", "$equal(a, b)", "$unlike(a)", "q(1, 2, 3, 4, 5, 6, 7)"):
            for behind in (".", ", r.", " r.", ")", " if q."):
                self.bad_program("p if " + goal + behind, 6 + len(goal) + (behind[0] == " "))
            for sign in (" = a.", " /= a."):
                self.assertEqual(write_program(read_program("p if " + goal + sign)), "p if " + goal + sign)

    def test_seven_terms_and_goals(self):
        six, seven = "1, 2, 3, 4, 5, 6", "1, 2, 3, 4, 5, 6, 7"
        self.assertEqual(len(read_program("p(" + six + ").").rules[0].head[1]), 6)
        self.bad_program("q.\n p(" + seven + ").", 2, 2)
        self.bad_program("q. p(" + seven + ") if r.", 4)
        self.assertEqual(len(read_program("p if q(" + six + ").").rules[0].goals[0][1]), 6)
        self.bad_program("p if q(" + seven + ").", 28)
        self.assertTrue(read_program("p(f(" + seven + ")) if f(" + seven + ") = ?x."))
        self.assertEqual(len(read_question("ask " + six + ".").terms), 6)
        self.bad_question("ask " + seven + ".", 21)
        self.bad_question("ask " + six + ", if p.", 21)
        self.assertEqual(len(read_program("p if q, q, q, q, q, a = b.").rules[0].goals), 6)
        self.bad_program("p if q, q, q, q, q, q, q.", 22)
        self.bad_question("ask if q, q, q, q, q, a = b, q.", 28)

    def test_sixteen_rules(self):
        text = "p(1) if q. " * 16
        self.assertEqual(len(read_program(text + "# no more\n").rules), 16)
        for word in ("p", "p(1).", "3", ")", "$if", "/"):
            self.bad_program(text + word, len(text) + 1)
        self.bad_program("p.\n" * 16 + " p.", 2, 17)

    def test_too_deep(self):
        self.assertEqual(read_program("p(" + nested(20) + ").").rules[0].head[1], (wrapped(19, "a"),))
        self.bad_program("p(" + nested(21) + ").", 43)
        self.bad_program("p(" + nested(21, "?x") + ").", 43)
        self.bad_program("p(b, " + nested(25) + ").", 46)
        self.assertTrue(read_program("p if q(" + nested(20) + "), " + nested(20) + " = " + nested(20) + "."))
        self.bad_program("p if q(" + nested(21) + ").", 48)
        self.bad_program("p if q(1), " + nested(22) + " = 1.", 12 + 42)
        # What is as deep as a relation's terms may be is too deep for a compound.
        for sign in ("=", "/="):
            self.bad_program("p if " + nested(21) + " " + sign + " a.", 6 + 61 + 1)
        self.assertEqual(read_program("p if " + nested(21) + ".").rules[0].goals, (("s", (wrapped(19, "a"),)),))
        self.bad_program("p if a = " + nested(21) + ".", 10 + 40)
        self.bad_program("p if a /= " + nested(21) + ".", 11 + 40)
        self.assertTrue(read_question("ask " + nested(20) + "."))
        self.bad_question("ask 1, " + nested(21, "3") + ".", 8 + 40)

    def test_words_out_of_bounds(self):
        for word in ("ninesigns", "$ninesigns", "?ninesigns", "1000000", "-1000000", "?1000000", "-0", "00", "012", "-01",
                     "?01", "- 1", "?-1", "?$x", "\t", "A"):
            self.bad_behind("p(a, ", word + ")")
            self.bad_behind("p if ", word + " = a.")
        self.assertTrue(read_program("eightsig(eightsig, $eightsig, ?eightsig)."))

    def test_where_something_lacks(self):
        for text in ("p", "p(", "p(a", "p(a,", "p(a)", "p if", "p if q", "p if q(", "p if q,", "p if ?x", "p if ?x =",
                     "p if ?x = f(", "p. q", "$if", "p if $equal"):
            self.bad_program(text, len(text) + 1)
            self.bad_program(text + "  ", len(text) + 3)
            self.bad_program(text + " # no", len(text) + 6)
            self.bad_program(text + "\n", 1, 2)
            self.bad_program("# yes\n" + text + " # no\n #\n  ", 3, 4)
        for text in ("ask", "ask a", "ask a,", "ask a if", "ask if p", "ask f(a"):
            self.bad_question(text, len(text) + 1)
            self.bad_question(text + "\n\n#..", 4, 3)
        self.bad_question("", 1)
        self.bad_question("# ask.\n ", 2, 2)

    def test_each_text_cut_short_lacks_something(self):
        source = random.Random(53)
        for _ in range(60):
            question = random_question(source)
            words = write_question(question).replace("(", " ( ").replace(")", " ) ").replace(",", " , ").replace(".", " .")
            words = words.split()
            for many in range(len(words)):
                text = " ".join(words[:many])
                self.bad_question(text, len(text) + 1)
                self.bad_question(text + " equal", len(text) + 2)

    def test_no_string(self):
        for thing in (None, 3, True, ["p."], ("p.",), b"p.", {}):
            self.bad_at(read_program, thing, 0, 0)
            self.bad_at(read_question, thing, 0, 0)


class AnswersTest(unittest.TestCase):
    def test_texts_of_answers(self):
        self.assertEqual(write_answer(Answer([], [])), ".")
        self.assertEqual(write_answer(Answer(["a"], [])), "a.")
        self.assertEqual(write_answer(Answer([X, ("f", (Y, -3)), X, "if"], [])), "?0, f(?1, -3), ?0, $if.")
        self.assertEqual(write_answer(Answer([X], [[(X, "ask")]])), "?0 if ?0 /= $ask.")
        answer = Answer([X, Y], [[(Y, ("f", (X,))), (X, "a")], [(Y, X)], [(X, 3)]])
        self.assertEqual(write_answer(answer), "?0, ?1 if ?0 /= 3, not (?0 = a, ?1 = f(a)), ?1 /= ?0.")

    def test_deep_answers(self):
        big = Program([Rule(("big", (0,)), []), Rule(("big", (wrapped(19, X),)), [("big", (X,))])])
        told = answered(big, Question([X], [("big", (X,))]), 11)
        self.assertEqual(write_answer(told[-1].answer), nested(191, "0") + ".")

    def test_arguments_are_not_changed(self):
        answer = Answer([X, Z], [[(X, "a")]])
        write_answer(answer)
        self.assertEqual(answer, Answer([X, Z], [[(X, "a")]]))
        write_program(COUNTS)
        self.assertEqual(write_question(Question([row_of([1])], [])), "ask row(1, none).")


if __name__ == "__main__":
    unittest.main()
