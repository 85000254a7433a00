"""Answers as they come: ways that are gone from the left, in turns, or so many steps each."""

from proofsizes.programs import check_count
from proofsizes.sharing import MOST_STEPS, are_same_rows
from proofsizes.shelves import Shelf
from proofsizes.terms import as_tuple, sides_of
from proofsizes.ways import Ways, trees_of


class Came:
    """The proofs that came, in order, how many steps were made, and whether there are no more ways."""

    def __init__(self, proofs, steps, is_over):
        self.proofs = as_tuple(proofs)
        self.steps = steps
        self.is_over = is_over

    def __eq__(self, other):
        if not isinstance(other, Came):
            return False
        if self.steps != other.steps or self.is_over != other.is_over:
            return False
        return are_same_rows(self.proofs, other.proofs, MOST_STEPS)


def from_left(program, question, steps):
    """What comes in so many steps, if the ways behind a way go ahead of all others."""
    check_count(steps, "steps")
    ways = Ways(program, question)
    found = []
    waiting = []
    way = ways.first()
    many = 0 if way is None else way.many
    made = 0
    while way is not None or waiting:
        if way is not None and not way.goals:
            found.append(trees_of(way, many))
        elif way is not None:
            if made == steps:
                return Came(found, made, False)
            made += 1
            waiting.extend(choices(ways, way))
        way = next_way(ways, waiting)
    return Came(found, made, True)


def choices(ways, way):
    """What may be taken for a way's first goal; what is to be tried first stands last."""
    mark = ways.bindings.mark()
    return [(mark, way, number) for number in ways.rules_for(way.goals[0])[::-1]]


def next_way(ways, waiting):
    """The way behind the last of what waits, which is taken out; None if it can't be so, or nothing waits."""
    if not waiting:
        return None
    mark, before, number = waiting.pop()
    ways.bindings.undo(mark)
    return ways.behind(before, 0, number)


def in_turns(program, question, steps):
    """What comes in so many steps, if the ways behind a way go behind all others."""
    check_count(steps, "steps")
    ways = Ways(program, question)
    way = ways.first()
    row = [] if way is None else [(ways.bindings.bound, way)]
    many = 0 if way is None else way.many
    found = []
    made = 0
    while row:
        behind = []
        for bound, way in row:
            if not way.goals:
                found.append(trees_of(way, many))
            elif made == steps:
                return Came(found, made, False)
            else:
                made += 1
                ways.bindings.begin(bound)
                behind.extend(ways_behind(ways, way))
        row = behind
    return Came(found, made, True)


def ways_behind(ways, way):
    """The ways behind a step of a way that is gone, each with what is bound by it."""
    found = []
    for mark, before, number in choices(ways, way)[::-1]:
        behind = ways.behind(before, 0, number)
        if behind is not None:
            found.append((bound_for(ways, behind), behind))
        ways.bindings.undo(mark)
    return found


def bound_for(ways, way):
    """What is bound of the unknowns alone that a way needs to be gone on with."""
    terms = [term for goal in way.goals for term in goal.terms]
    terms.extend([term for pairs in way.unlikes for term in sides_of(pairs)])
    return {name: ways.bindings.bound[name] for name in ways.bindings.needed(terms)}


def open_answers(program, question, levels):
    """The list of the unlike answers of the ways behind so many steps each, as if nothing were open."""
    check_count(levels, "levels")
    ways = Ways(program, question)
    shelf = Shelf()
    found = {}
    waiting = []
    way = ways.first()
    while way is not None or waiting:
        if way is not None and way.goals and len(way.taken) < levels:
            waiting.extend(choices(ways, way))
        elif way is not None:
            answer = ways.answer_behind(way)
            found.setdefault(shelf.key_of(answer.form), answer)
        way = next_way(ways, waiting)
    return list(found.values())
