"""Texts of proofs: a line for each rule, with its head as it is used there."""

from proofsizes.errors import BadQuestion
from proofsizes.lexing import BadText, words_of
from proofsizes.nodes import names_in, numbered, put_in, terms_of
from proofsizes.programs import relation_goals, relation_of
from proofsizes.proofs import are_proofs, numbers_in
from proofsizes.reading import Reader, refuse
from proofsizes.texts import relation_text
from proofsizes.ways import Ways


class Line:
    """A line of proofs: how many rules it stands within, the rule's number and its head, and their words."""

    def __init__(self, level, number, head, words):
        self.level = level
        self.number = number
        self.head = head
        self.words = words


def write_proofs(program, question, proofs):
    """The text of proofs that have an answer."""
    heads = used_heads(program, question, proofs) if are_proofs(program, question, proofs) else None
    if heads is None:
        raise BadQuestion("proofs")
    lines = []
    for number, (level, head) in zip(numbers_in(proofs), heads):
        lines.append("  " * level + str(number) + " " + relation_text(head))
    return "\n".join(lines)


def used_heads(program, question, proofs):
    """For each rule in proofs how many it stands within, and its head as it is used there; None without an answer.

    Rules are taken for the first open goal, so the goals come in the order of the lines.
    """
    ways = Ways(program, question)
    way = ways.first()
    used = []
    for number in numbers_in(proofs):
        if way is None:
            return None
        used.append(way.goals[0])
        way = ways.behind(way, 0, number)
    if way is None:
        return None
    nodes = ways.bindings.resolved(list(ways.terms) + [node for goal in used for node in goal.terms], {})
    terms = terms_of(put_in(nodes, numbered(names_in(nodes), 0)))
    heads = []
    at = len(ways.terms)
    for goal in used:
        heads.append((goal.level - 1, (goal.relation[0], tuple(terms[at:at + len(goal.terms)]))))
        at += len(goal.terms)
    return heads


def read_proofs(program, question, text):
    """The proofs of which this is the text."""
    if not isinstance(text, str):
        raise BadText(0, 0)
    rows = text.split("\n") if text else []
    lines = [read_line(words_of(row, at + 1)) for at, row in enumerate(rows)]
    check_places(program, question, lines)
    proofs = proofs_of_lines(program, lines)
    heads = used_heads(program, question, proofs)
    if heads is None:
        raise BadQuestion("proofs")
    for line, (_, head) in zip(lines, heads):
        if line.head != head:
            refuse(line.words[1])
    return proofs


def read_line(words):
    """Reads a line's words: a number, behind an even number of blanks, and the head of a rule."""
    first = words[0]
    level, odd = divmod(first.column - 1, 2)
    if first.kind != "integer" or first.worth < 0 or odd == 1:
        refuse(first)
    reader = Reader(words)
    reader.at = 1
    head = reader.read_head()
    reader.read_end()
    return Line(level, first.worth, head, words)


def check_places(program, question, lines):
    """Raises BadText for the first line that doesn't stand where one of the goals must be."""
    waiting = [(0, goal) for goal in relation_goals(question.goals)[::-1]]
    for line in lines:
        if not waiting:
            refuse(line.words[0])
        level, goal = waiting.pop()
        if line.level != level or not is_rule_of(program, line.number, relation_of(goal)):
            refuse(line.words[0])
        inner = relation_goals(program.rules[line.number].goals)
        waiting.extend([(level + 1, one) for one in inner[::-1]])
    if waiting:
        raise BadText(len(lines) + 1, 1)


def is_rule_of(program, number, relation):
    """Whether there is a rule with a number, and it is of a relation."""
    return number < len(program.rules) and relation_of(program.rules[number].head) == relation


def proofs_of_lines(program, lines):
    """The proofs of lines that stand where those of the goals must be."""
    built = []
    for line in lines[::-1]:
        many = len(relation_goals(program.rules[line.number].goals))
        trees = tuple(built[len(built) - many:][::-1])
        del built[len(built) - many:]
        built.append((line.number, trees))
    return tuple(built[::-1])
