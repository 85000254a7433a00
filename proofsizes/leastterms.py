"""The least ground term of each state."""

from proofsizes.terms import constant_key


class Least:
    """A state's least term: how many signs it has, a constant or a name, the states of its parts, and the term."""

    def __init__(self, signs, name, inner):
        self.signs = signs
        self.name = name
        self.inner = inner
        self.term = None

    def order_key(self, ranks):
        """By this such terms ascend, when the least terms of their parts have ranks in the order of terms."""
        head = (3, len(self.inner), self.name) if self.inner else constant_key(self.name)
        return head, tuple([ranks[state] for state in self.inner])


def least_terms_of(states):
    """The dict, ascending, from all states that ground terms have, to the least of these."""
    found = least_of(states)
    return {state: found[state].term for state in sorted(found)}


def least_of(states):
    """The dict from all states that ground terms have to what makes the least of these, each behind its parts.

    They are made of the constants and compounds that are told, and of one constant more.
    The term with the fewest signs of all that are still to be found is made of found ones.
    """
    constants = constants_told(states)
    found = {}
    ranks = {}
    state, least = least_left(states, constants, found, ranks)
    while least is not None:
        inner = tuple([found[other].term for other in least.inner])
        least.term = (least.name, inner) if inner else least.name
        found[state] = least
        ranks = ranked({one: found[one].order_key(ranks) for one in found})
        state, least = least_left(states, constants, found, ranks)
    return found


def ranked(keys):
    """The dict from states to their places in the order of their keys."""
    ascending = sorted(keys, key=lambda state: keys[state])
    return {state: at for at, state in enumerate(ascending)}


def constants_told(states):
    """The dict from the constants that are told, and the least integer from 0 on that isn't, to their states."""
    constants = {constant: states.constants[constant] for constant in states.constants}
    fresh = 0
    while fresh in constants:
        fresh += 1
    constants[fresh] = states.other
    return constants


def least_left(states, constants, found, ranks):
    """The state whose least term is next, and what makes that, or None; those with fewer signs are found."""
    best = None
    for constant in constants:
        if constants[constant] not in found:
            best = lesser(best, (constants[constant], Least(1, constant, ())), ranks)
    for name, parts in states.compounds:
        table = states.compounds[name, parts]
        for row in table:
            if table[row] not in found and all([state in found for state in row]):
                signs = 1 + sum([found[state].signs for state in row])
                if best is None or signs <= best[1].signs:
                    best = lesser(best, (table[row], Least(signs, name, row)), ranks)
    return (None, None) if best is None else best


def lesser(one, other, ranks):
    """The one of two states with terms that has the lesser term; the first one may be None."""
    if one is None:
        return other
    first, second = (one[1].signs, one[1].order_key(ranks)), (other[1].signs, other[1].order_key(ranks))
    return one if first <= second else other
