"""Texts of programs, questions and answers."""

from proofsizes.lexing import OWN_WORDS, words_of
from proofsizes.programs import MOST_RULES, OWN_NAMES, Program
from proofsizes.reading import Reader, refuse
from proofsizes.terms import integer_text, is_compound, is_integer, is_unknown, parts_of, unknown_text


def read_program(text):
    """The program of a text."""
    reader = Reader(words_of(text))
    rules = []
    while reader.word().kind != "end":
        if len(rules) == MOST_RULES:
            refuse(reader.word())
        rules.append(reader.read_rule())
    return Program(rules)


def read_question(text):
    """The question of a text."""
    reader = Reader(words_of(text))
    question = reader.read_question()
    reader.read_end()
    return question


def write_program(program):
    """The text of a program, a line for each rule."""
    return "\n".join([rule_text(rule) for rule in program.rules])


def write_question(question):
    """The text of a question."""
    asked = " " + terms_text(question.terms) if question.terms else ""
    return "ask" + asked + goals_text(question.goals) + "."


def write_answer(answer):
    """The text of an answer."""
    unlike = [inequation_text(pairs) for pairs in answer.inequations]
    behind = " if " + ", ".join(unlike) if unlike else ""
    return terms_text(answer.terms) + behind + "."


def rule_text(rule):
    """The text of a rule."""
    return relation_text(rule.head) + goals_text(rule.goals) + "."


def goals_text(goals):
    """The text of goals with the `if` ahead of them; without any there is none."""
    return " if " + ", ".join([goal_text(goal) for goal in goals]) if goals else ""


def goal_text(goal):
    """The text of a goal."""
    if goal[0] not in OWN_NAMES:
        return relation_text(goal)
    sign = " = " if goal[0] == "equal" else " /= "
    return pair_text(goal[1], sign)


def relation_text(goal):
    """The text of a goal of a relation."""
    return term_text(goal) if goal[1] else name_text(goal[0])


def inequation_text(pairs):
    """The text of an inequation."""
    if len(pairs) == 1:
        return pair_text(pairs[0], " /= ")
    return "not (" + ", ".join([pair_text(pair, " = ") for pair in pairs]) + ")"


def pair_text(pair, sign):
    """The text of two terms with a sign between."""
    return term_text(pair[0]) + sign + term_text(pair[1])


def terms_text(terms):
    """The texts of terms, commas between."""
    return ", ".join([term_text(term) for term in terms])


def term_text(term):
    """The text of a term."""
    built = []
    for part in reversed(parts_of(term)):
        if is_compound(part):
            many = len(part[1])
            inner = ", ".join(built[-many:][::-1])
            del built[-many:]
            built.append(name_text(part[0]) + "(" + inner + ")")
        elif is_unknown(part):
            built.append("?" + unknown_text(part[1]))
        else:
            built.append(integer_text(part) if is_integer(part) else name_text(part))
    return built[0]


def name_text(name):
    """A name with the sign that those need that are words of the language."""
    return "$" + name if name in OWN_WORDS else name
