"""Scripts: texts that are done line by line at a desk."""

from proofsizes.falling import falling_places
from proofsizes.lexing import BadText, words_of
from proofsizes.programs import MOST_RULES, OWN_NAMES, Program
from proofsizes.reading import Reader, refuse
from proofsizes.searching import judge_spent
from proofsizes.sessions import Desk
from proofsizes.texts import name_text, write_answer, write_program, write_question
from proofsizes.unfolding import needless, unfolded

MOST_SPENT = 9


def run_script(text):
    """The list of the answers to all lines of a script that have words."""
    if not isinstance(text, str):
        raise BadText(0, 0)
    desk = Desk(Program([]))
    answers = []
    for at, line in enumerate(text.split("\n")):
        words = words_of(line, at + 1)
        if words[0].kind != "end":
            answers.append(done_line(desk, Reader(words)))
    return answers


def done_line(desk, reader):
    """Does a line; the answer to it."""
    first = reader.word()
    if reader.is_at("own", "ask"):
        return done_question(desk, reader)
    if first.kind != "name" or first.worth not in ACTIONS:
        refuse(first)
    action = ACTIONS[first.worth]
    reader.at += 1
    return action(desk, reader, first)


def done_question(desk, reader):
    """Asks a question."""
    question = reader.read_question()
    reader.read_end()
    desk.ask(question)
    return write_question(question)


def done_rule(desk, reader, _):
    """Puts a rule."""
    first = reader.word()
    rule = reader.read_rule()
    reader.read_end()
    if len(desk.program.rules) == MOST_RULES:
        refuse(first)
    desk.put(rule)
    return "rules " + str(len(desk.program.rules))


def done_more(desk, reader, first):
    """Goes on to the next size."""
    if desk.question is None:
        refuse(first)
    reader.read_end()
    new = desk.more()
    return "size " + str(desk.size) + answers_text(new)


def done_take(desk, reader, _):
    """Takes a rule away."""
    number = read_number(reader, len(desk.program.rules))
    reader.read_end()
    return "gone" + answers_text(desk.take(number))


def done_spent(desk, reader, first):
    """Tells whether the question is spent."""
    if desk.question is None:
        refuse(first)
    most = read_number(reader, MOST_SPENT + 1)
    reader.read_end()
    paper = judge_spent(desk.program, desk.question, most)
    return ("spent " if paper else "open ") + str(paper.levels)


def done_needless(desk, reader, _):
    """Tells whether a rule is needless."""
    number = read_number(reader, len(desk.program.rules))
    reader.read_end()
    paper = needless(desk.program, number)
    return "needed" if paper is None else "needless by " + str(paper.by)


def done_unfold(desk, reader, _):
    """Unfolds a rule's goal."""
    number = read_number(reader, len(desk.program.rules))
    word = reader.word()
    goals = desk.program.rules[number].goals
    place = read_number(reader, len(goals))
    if goals[place][0] in OWN_NAMES:
        refuse(word)
    reader.read_end()
    made = unfolded(desk.program, number, place)
    desk.turn_to(made.program)
    return " ".join(["by"] + [str(by) for by in made.numbers])


def done_falling(desk, reader, _):
    """Tells by which places the program is falling."""
    reader.read_end()
    places = falling_places(desk.program)
    if places is None:
        return "not falling"
    rows = [name_text(name) + " " + str(many) + " at " + str(places[name, many]) for name, many in places]
    return ", ".join(["falling"] + rows)


def done_undo(desk, reader, first):
    """Takes back the last step."""
    reader.read_end()
    if not desk.past:
        refuse(first)
    desk.undo()
    return "undone"


def done_write(desk, reader, _):
    """Writes the program."""
    reader.read_end()
    return write_program(desk.program)


def read_number(reader, many):
    """Reads a number that is one of so many."""
    word = reader.word()
    if word.kind != "integer" or not 0 <= word.worth < many:
        refuse(word)
    reader.at += 1
    return word.worth


def answers_text(told):
    """The texts of what is told, a blank ahead of each."""
    return "".join([" " + write_answer(one.answer) for one in told])


ACTIONS = {
    "rule": done_rule,
    "more": done_more,
    "take": done_take,
    "spent": done_spent,
    "needless": done_needless,
    "unfold": done_unfold,
    "falling": done_falling,
    "undo": done_undo,
    "write": done_write,
}
