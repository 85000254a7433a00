"""[22]: scripts."""

import random
import unittest

from proofsizes.errors import BadRule, TooLarge
from proofsizes.falling import falling_places
from proofsizes.lexing import BadText
from proofsizes.programs import Program
from proofsizes.scripts import run_script
from proofsizes.searching import answered, judge_spent
from proofsizes.texts import read_program, read_question, write_answer, write_program, write_question
from proofsizes.unfolding import needless, unfolded
from tests.samples import JOINED, SPLIT, random_program, random_question

RULES = "rule joined(none, ?y, ?y).\nrule joined(row(a, ?x), ?y, row(a, ?z)) if joined(?x, ?y, ?z).\n"
ASK = "ask ?x, ?y if joined(?x, ?y, row(a, row(a, none))).\n"


def texts(rows):
    return "".join(" " + write_answer(one.answer) for one in rows)


class LinesTest(unittest.TestCase):
    def check(self, script, *answers):
        self.assertEqual(run_script(script), list(answers))

    def test_rules_and_questions(self):
        self.check(RULES, "rules 1", "rules 2")
        self.check("rule p.", "rules 1")
        self.check("ask  ?x if p( ?x ),$q.#", "ask ?x if p(?x), q.")
        self.check("ask.\nask if $if.", "ask.", "ask if $if.")

    def test_remarks_and_empty_lines(self):
        self.check("")
        self.check("\n  \n# rule p.\n #\n")
        self.check("\n# one\nrule p. # two\n\n  write#\n", "rules 1", "p.")

    def test_more(self):
        script = RULES + ASK + "more\n" * 4
        row = "row(a, none)"
        self.assertEqual(run_script(script)[3:], ["size 0", "size 1 none, row(a, row(a, none)).",
                                                  "size 2 " + row + ", " + row + ".", "size 3 row(a, row(a, none)), none."])
        self.check("ask.\nmore\nmore", "ask.", "size 0 .", "size 1")
        script = "rule p(?x) if ?x /= 1.\nrule p(2).\nrule p(0).\nask ?x if p(?x).\nmore\nmore"
        self.assertEqual(run_script(script)[-1], "size 1 0. 2. ?0 if ?0 /= 1.")

    def test_take(self):
        script = RULES + ASK + "more\n" * 3
        row = "row(a, none)"
        self.assertEqual(run_script(script + "take 1\nwrite")[-2:], ["gone " + row + ", " + row + ".", JOINED_FIRST])
        self.assertEqual(run_script(script + "take 0")[-1], "gone none, row(a, row(a, none)). " + row + ", " + row + ".")
        self.check("rule p.\ntake 0\nwrite", "rules 1", "gone", "")

    def test_spent(self):
        script = RULES + ASK
        for most in range(10):
            self.assertEqual(run_script(script + "spent " + str(most))[-1], "spent 3" if most > 2 else "open " + str(most))
        self.check("ask ?x.\nspent 0", "ask ?x.", "spent 0")

    def test_needless(self):
        script = "rule p(?x) if q(?x).\nrule p(1) if q(1), r.\nrule p(?x) if q(?x), r.\n"
        self.assertEqual(run_script(script + "needless 0\nneedless 1\nneedless 2")[3:], ["needed", "needless by 0", "needless by 0"])

    def test_unfold(self):
        script = "rule p(?x) if 1 /= 2, q(?x).\nrule q(1) if r.\nrule q(2).\nrule p(3).\n"
        found = run_script(script + "unfold 0 1\nwrite\nundo\nwrite")[4:]
        self.assertEqual(found[0], "by 1 2")
        self.assertEqual(found[1], "p(1) if 1 /= 2, r.\np(2) if 1 /= 2.\nq(1) if r.\nq(2).\np(3).")
        self.assertEqual(found[2:], ["undone", "p(?x) if 1 /= 2, q(?x).\nq(1) if r.\nq(2).\np(3)."])
        self.check("rule p if q.\nunfold 0 0\nwrite", "rules 1", "by", "")
        asked = script + "ask ?x if p(?x).\nmore\nmore\nunfold 0 1\nmore\nundo\nundo\nmore"
        self.assertEqual(run_script(asked)[5:], ["size 0", "size 1 3.", "by 1 2", "size 2", "undone", "undone", "size 2 2."])
        # What the unfolded program leads to with fewer rules is told as of the size that was reached.
        asked = script + "ask ?x if p(?x).\nmore\nmore\nunfold 0 1\ntake 1"
        self.assertEqual(run_script(asked)[-1], "gone 2.")

    def test_falling(self):
        self.check("falling", "falling")
        self.check("rule p.\nfalling", "rules 1", "falling")
        self.check(RULES + "falling", "rules 1", "rules 2", "falling, joined 3 at 0")
        self.check("rule p(?x) if p(?x).\nfalling", "rules 1", "not falling")
        script = "rule $ask(1, s(?x)) if $if(?x, ?y), ?x = 1.\nrule $if(s(?x), ?y) if $ask(1, ?x).\nrule a(1).\nfalling"
        self.assertEqual(run_script(script)[-1], "falling, a 1 at 0, $ask 2 at 1, $if 2 at 0")

    def test_undo_and_write(self):
        self.check("rule p.\nrule q if p.\nundo\nwrite\nundo\nwrite", "rules 1", "rules 2", "undone", "p.", "undone", "")
        script = RULES + ASK + "more\nmore\nundo\nmore\ntake 0\nundo\nmore\nask.\nundo\nmore"
        found = run_script(script)[3:]
        one, two = "size 1 none, row(a, row(a, none)).", "size 2 row(a, none), row(a, none)."
        self.assertEqual(found, ["size 0", one, "undone", one, "gone none, row(a, row(a, none)).", "undone", two, "ask.",
                                 "undone", "size 3 row(a, row(a, none)), none."])
        self.assertEqual(run_script(RULES + "write")[-1], write_program(JOINED))

    def test_lists_are_new(self):
        first = run_script(RULES)
        first.append(None)
        self.assertEqual(run_script(RULES), ["rules 1", "rules 2"])


JOINED_FIRST = "joined(none, ?y, ?y)."


class PartsTest(unittest.TestCase):
    """Each answer against the package's own parts."""

    def test_random_scripts(self):
        source = random.Random(157)
        for _ in range(40):
            program, question = random_program(source), random_question(source)
            lines = ["rule " + line for line in write_program(program).split("\n")]
            lines += [write_question(question)] + ["more"] * 3
            many = len(program.rules)
            lines += ["needless " + str(number) for number in range(many)] + ["spent 2", "falling", "write", "take 0", "undo"]
            found = run_script("\n".join(lines) + "\n# end")
            self.assertEqual(found[:many], ["rules " + str(number + 1) for number in range(many)])
            told = answered(program, question, 2)
            self.assertEqual(found[many], write_question(question))
            for size in range(3):
                new = [one for one in told if one.size == size]
                self.assertEqual(found[many + 1 + size], "size " + str(size) + texts(new))
            for number in range(many):
                paper = needless(program, number)
                right = "needed" if paper is None else "needless by " + str(paper.by)
                self.assertEqual(found[many + 4 + number], right)
            paper = judge_spent(program, question, 2)
            places = falling_places(program)
            rows = [name + " " + str(width) + " at " + str(places[name, width]) for name, width in places or {}]
            right = "not falling" if places is None else ", ".join(["falling"] + rows)
            left = [one.answer for one in answered(Program(program.rules[1:]), question, 2)]
            gone = [one for one in told if one.answer not in left]
            self.assertEqual(found[2 * many + 4:], [("spent " if paper else "open ") + str(paper.levels), right,
                                                    write_program(program), "gone" + texts(gone), "undone"])

    def test_random_unfolding(self):
        source = random.Random(163)
        some = 0
        for _ in range(60):
            program, question = random_program(source), random_question(source)
            lines = ["rule " + line for line in write_program(program).split("\n")] + [write_question(question)] + ["more"] * 3
            for number, rule in enumerate(program.rules):
                for place, goal in enumerate(rule.goals):
                    if goal[0] in ("p", "q"):
                        script = "\n".join(lines + ["unfold {} {}".format(number, place), "more"])
                        made = unfolded(program, number, place)
                        found = run_script(script)
                        self.assertEqual(found[-2], " ".join(["by"] + [str(by) for by in made.numbers]))
                        new = [one for one in answered(made.program, question, 3) if one.size == 3]
                        self.assertEqual(found[-1], "size 3" + texts(new))
                        some += 1
        self.assertGreater(some, 50)

    def test_texts_are_read_back(self):
        self.assertEqual(read_program(run_script(RULES + "write")[-1]), JOINED)
        self.assertEqual(read_question(run_script(ASK)[-1]), SPLIT)


class RefusedTest(unittest.TestCase):
    def bad(self, script, line, column):
        with self.assertRaises(BadText, msg=script) as caught:
            run_script(script)
        self.assertEqual((caught.exception.line, caught.exception.column), (line, column), script)

    def test_lines_that_begin_none(self):
        for word in ("p.", "rules 1", "put", "3", "?x", "(", ".", "if", "equal", "$if", "More", "/", "-1", "asks", "rulep."):
            self.bad(word, 1, 1)
            self.bad("rule p.\n\n  " + word + "\nmore", 3, 3)

    def test_the_first_word_that_cannot_stand(self):
        for line, column in (
            ("rule 3.", 6), ("rule p(a b).", 10), ("rule p. q.", 9), ("rule p if q, .", 14), ("rule if.", 6),
            ("rule $equal(a, b).", 6), ("ask p(a) q.", 10), ("ask. ask.", 6), ("ask 1, 2, 3, 4, 5, 6, 7.", 21),
            ("write p", 7), ("write .", 7), ("falling p", 9), ("undo undo", 6), ("undo /", 6), ("take x", 6), ("take ?1", 6),
            ("falling 007", 9), ("rule ninesigns.", 6),
        ):
            self.bad("rule r if s.\nask.\n" + line, 3, column)
            self.bad("\nrule r if s.\nask.\n  " + line + " # no\nmore", 4, column + 2)

    def test_a_line_that_lacks_something(self):
        for line in ("rule", "rule p", "rule p(", "rule p if", "rule p if q,", "ask", "ask 1", "ask if p", "take", "spent",
                     "needless", "unfold", "unfold 0"):
            for more in ("", "  ", " # more", "#"):
                start = "rule r if s.\nask.\n"
                self.bad(start + line + more, 3, len(line + more) + 1)
                self.bad(start + line + more + "\np.", 3, len(line + more) + 1)

    def test_without_a_question(self):
        for line in ("more", "more x", "more /", "spent", "spent 3", "spent x", "spent 10"):
            self.bad(line, 1, 1)
            self.bad("rule p.\n " + line, 2, 2)
            self.bad("ask.\nundo\n" + line, 3, 1)
        self.bad("ask.\nmore x", 2, 6)
        self.bad("ask.\nmore /", 2, 6)

    def test_without_a_step(self):
        self.bad("undo", 1, 1)
        self.bad("  undo # no", 1, 3)
        self.bad("undo x", 1, 6)
        self.bad("rule p.\nundo\nwrite\nundo", 4, 1)
        self.bad("ask.\nmore\nundo\nundo\nspent 2", 5, 1)

    def test_numbers_that_there_are_not(self):
        start = "rule p if q, 1 /= 2, p, ?x = 3.\nrule q.\n"
        for line, column in (
            ("take 2", 6), ("take -1", 6), ("take 2 x", 6), ("take 0 x", 8), ("take 1000000", 6),
            ("needless 2", 10), ("needless 2 /", 10), ("needless 1 /", 12), ("needless 0 1", 12),
            ("unfold 2 0", 8), ("unfold 2", 8), ("unfold 2 x", 8), ("unfold 0 4", 10), ("unfold 0 1", 10), ("unfold 0 3", 10),
            ("unfold 0 1 x", 10), ("unfold 0 -1", 10), ("unfold 1 0", 10), ("unfold 0 0 0", 12), ("unfold 0 x", 10),
        ):
            self.bad(start + line, 3, column)
        for line, column in (("spent 10", 7), ("spent -1", 7), ("spent 10 x", 7), ("spent 9 x", 9), ("spent x", 7)):
            self.bad(start + "ask.\n" + line, 4, column)
        self.bad("take 0", 1, 6)
        self.bad("needless 0", 1, 10)
        self.bad("unfold 0 0", 1, 8)

    def test_a_rule_too_many(self):
        start = "rule p.\n" * 16
        self.assertEqual(run_script(start)[-1], "rules 16")
        self.bad(start + "rule q.", 17, 6)
        self.bad(start + "  rule  q if p. # no", 17, 9)
        self.bad(start + "rule q. q", 17, 9)
        self.bad(start + "rule q if", 17, 10)
        self.bad(start + "rule", 17, 5)
        self.assertEqual(run_script(start + "take 3\nrule q.")[-1], "rules 16")

    def test_no_string(self):
        for thing in (None, 3, True, ["more"], b"more", ()):
            self.bad(thing, 0, 0)

    def test_errors_of_unfolding(self):
        wide = "rule p if q, " + ", ".join(["r"] * 5) + ".\nrule q if " + ", ".join(["r"] * 2) + ".\nunfold 0 0"
        with self.assertRaises(BadRule) as caught:
            run_script(wide)
        self.assertEqual((caught.exception.number, caught.exception.part), (None, "goals"))
        with self.assertRaises(BadRule) as caught:
            run_script("rule p if q.\n" + "rule q.\n" * 15 + "unfold 0 0")
        self.assertEqual((caught.exception.number, caught.exception.part), (None, "rules"))

    def test_too_large(self):
        rules = ["rule p(?x) if " + ", ".join("?x /= {}".format(10 * n + m) for m in range(6)) + "." for n in range(7)]
        with self.assertRaises(TooLarge):
            run_script("\n".join(rules) + "\nask ?x, ?y, ?z if p(?x), p(?y), p(?z).\n" + "more\n" * 4)
        wide = "\n".join("rule {}(1, 2, 3, 4).".format(name) for name in "abcdefg")
        with self.assertRaises(TooLarge) as caught:
            run_script(wide + "\nfalling")
        self.assertEqual(caught.exception.number, 4 ** 7)


if __name__ == "__main__":
    unittest.main()
