"""All ground terms of some states, where there are finitely many."""

from proofsizes.errors import TooLarge
from proofsizes.fitting import rows_in
from proofsizes.nodes import made_node, terms_of
from proofsizes.ordering import ascending_by_signs

MOST_TERMS = 2000


def finite_terms(states, wanted):
    """The list of all terms of some states, by signs, then in order; None if there are endless many."""
    ways = ways_to(states)
    order = order_of_states(ways, wanted)
    # All constants but those that are told have the state of the others, and there is no end to them.
    if order is None or states.other in order:
        return None
    many = {}
    for state in order:
        many[state] = sum([ways_of_row(row, many) for _, row in ways[state]])
        check_many(many[state])
    check_many(sum([many[state] for state in wanted]))
    found = {}
    for state in order:
        found[state] = []
        for name, row in ways[state]:
            inner = rows_in([found[part] for part in row])
            found[state].extend([made_node(name, parts) for parts in inner])
    nodes = [node for state in wanted for node in found[state]]
    return terms_of(ascending_by_signs(nodes, [[node] for node in nodes]))


def check_many(many):
    """Raises TooLarge for too many terms."""
    if many > MOST_TERMS:
        raise TooLarge(many)


def ways_to(states):
    """The dict from states to pairs of a constant, or a compound's name, and the states of its parts."""
    ways = {state: [] for state in range(states.many)}
    for constant in states.constants:
        ways[states.constants[constant]].append((constant, ()))
    for name, parts in states.compounds:
        table = states.compounds[name, parts]
        for row in table:
            ways[table[row]].append((name, row))
    return ways


def order_of_states(ways, wanted):
    """The list of all states within terms of some states, each behind those within it; None if there is a ring."""
    done = {}
    for start in wanted:
        path = [] if start in done else [(start, states_within(ways, start))]
        on_path = {start: True}
        while path:
            state, inner = path[-1]
            if not inner:
                done[state] = True
                del on_path[state]
                path.pop()
                continue
            following = inner.pop()
            if following in on_path:
                return None
            if following not in done:
                on_path[following] = True
                path.append((following, states_within(ways, following)))
    return list(done)


def states_within(ways, state):
    """The list of the states of parts of a state's terms, the least one last."""
    return sorted(set([part for _, row in ways[state] for part in row]))[::-1]


def ways_of_row(row, many):
    """How many rows of terms have a row of states."""
    found = 1
    for state in row:
        found = found * many[state]
    return found
