"""The answers of proofs by those of the trees in them, each unlike tree being gone through once."""

from proofsizes.growing import Source
from proofsizes.nodes import unknown_node
from proofsizes.sharing import MOST_STEPS, unlike_parts
from proofsizes.ways import Ways


def composed_answer(program, question, proofs):
    """The Answer that proofs of a question have; None if what they ask can't be so."""
    ways = Ways(program, question)
    parts, numbers = unlike_parts([proofs], MOST_STEPS)
    answers = []
    for inner, _ in parts:
        answers.append(answer_of_part(ways, parts, answers, inner))
    row = parts[numbers[0]][0]
    return answer_behind(Source([], [ways.question], 0), [answers[part] for part in row])


def answer_of_part(ways, parts, answers, inner):
    """The Answer of a tree to the terms of its rule's head, by those of the trees in it; None for what has none."""
    if inner is None or len(inner) != 2 or parts[inner[0]][0] is not None:
        return None
    rule = ways.rules[parts[inner[0]][1]]
    unknowns = [unknown_node(at) for at in range(len(rule.terms))]
    return answer_behind(Source(unknowns, [rule], 1), [answers[part] for part in parts[inner[1]][0]])


def answer_behind(source, answers):
    """The Answer of a rule, or the question, if its goals have some answers; None if that can't be so."""
    started = source.started()
    waiting = started[0] if started and None not in answers else None
    for answer in answers:
        if waiting is not None:
            waiting = waiting.joined(waiting.goals[0][1], 0, answer)
    return None if waiting is None else waiting.comes_to()
